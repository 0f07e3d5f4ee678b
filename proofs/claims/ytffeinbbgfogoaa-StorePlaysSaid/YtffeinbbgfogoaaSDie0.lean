/-
  StoreDies' steps: a file that is appended to, written, renamed by an armed store. Conditions: at most a hundred bytes each.
-/
import Derived.Test.YtffeinbbgfogoaaSCopy
import Derived.Test.YtffeinbbgfogoaaSRnm
import Derived.Test.YtffeinbbgfogoaaSM3
import Derived.Test.YtffeinbbgfogoaaSKnown
namespace Go.Proofs.Ytffeinbbgfogoaa.Sr
open Go.RowKit Fr

theorem okF : rdy false [({ data := #[102] } : ByteArray)] = 0 := by decide
theorem okFG : rdy false [({ data := #[103] } : ByteArray), ({ data := #[102] } : ByteArray)] = 0 := by decide
theorem byt_one (k : ByteArray) (v : Value) (l : List Int) : bytL [(k, v, l)] k = l := by simp [bytL]
theorem has_one (k : ByteArray) (v : Value) (l : List Int) : hasL [(k, v, l)] k = true := by simp [hasL]
theorem put_one (k : ByteArray) (v v' : Value) (l l' : List Int) : putL [(k, v, l)] k (v', l') = [(k, v', l')] := by simp [putL]
theorem used_one (k : ByteArray) (v : Value) (l : List Int) : usedL [(k, v, l)] = l.length := by simp [usedL]
/-- The files of one that are alike. -/
theorem alike_one {k : ByteArray} {v : Value} {l : List Int} {L : List Fi} (hk : KeysL L) (h : Alike [(k, v, l)] L) : ∃ v', L = [(k, v', l)] := by
  have h1 := h k
  rw [has_one, byt_one] at h1
  obtain ⟨x, hx, e⟩ := has_mem.1 h1.1
  have hno : ∀ y ∈ L, y.1 = k := fun y hy => by
    have h2 := (h y.1).1
    rw [has_mem.2 ⟨y, hy, rfl⟩] at h2
    simp only [hasL] at h2
    split at h2
    · rename_i h3; exact h3.symm
    · cases h2
  cases L with
  | nil => cases hx
  | cons y r =>
    cases r with
    | cons z r =>
      have := (List.pairwise_cons.1 hk).1 z List.mem_cons_self
      exact absurd ((hno y List.mem_cons_self).trans (hno z (List.mem_cons_of_mem _ List.mem_cons_self)).symm) this
    | nil =>
      obtain ⟨yk, yv, yl⟩ := y
      have h3 : yk = k := hno _ List.mem_cons_self
      subst h3
      have h4 := h1.2
      rw [byt_one] at h4
      subst h4
      exact ⟨yv, rfl⟩

theorem useS_dead (s : S) (n : Int) (h : s.a = true) (hlt : s.n < n) : useS s n = { s with n := 0, d := true } := by
  unfold useS; rw [if_pos h, if_pos hlt]
theorem useS_live (s : S) (n : Int) (h : s.a = true) (hlt : ¬ s.n < n) : useS s n = { s with n := s.n - n } := by
  unfold useS; rw [if_pos h, if_neg hlt]
def arS (u : Nat) (n : Nat) : S := ⟨true, (u : Int), false, 1000, (n : Int)⟩
theorem d_app (w : World) (p : Nat) (mb : Option Nat) (v : Value) (lo lb : List Int) (A : Option Addr) (m c u : Nat) (h : StR w p (arS u lo.length) mb [(({ data := #[102] } : ByteArray), v, lo)]) (hlo : lo.length ≤ 100) (hm : m ≤ 100) (hlb : lb.length = m)
    (hv : ∀ w', Off (own p mb [(({ data := #[102] } : ByteArray), v, lo)]) w w' → BAt w' (.slice A m c) lb) :
    Calls Try.prog 11 #[.pointer (some ⟨p, 0, none⟩), .string ({ data := #[102] } : ByteArray), .slice A m c] w fun e w' => e = .returned (.int .i64 (if min u m = m then 0 else 14)) ∧
      ∃ s' mb' v', s'.d = decide (min u m ≠ m) ∧ Mv w w' p mb [(({ data := #[102] } : ByteArray), v, lo)] s' mb' [(({ data := #[102] } : ByteArray), v', lo ++ lb.take (min u m))] := by
  have hf : ¬ (arS u lo.length).room < (arS u lo.length).used + (m : Int) := by
    show ¬ (1000 : Int) < (lo.length : Int) + m
    omega
  by_cases h0 : m = 0
  · subst h0
    refine (append_zero w p _ mb _ _ A c h okF).mono ?_
    rintro e w' ⟨rfl, mb', v', hmv⟩
    have e1 : useS (arS u lo.length) 0 = { arS u lo.length with n := (u : Int) - 0 } := useS_live _ _ rfl (show ¬ (u : Int) < 0 by omega)
    rw [byt_one, put_one] at hmv
    rw [Nat.min_zero, List.take_zero, List.append_nil]
    refine ⟨?_, _, mb', v', ?_, hmv⟩
    · rw [e1, if_pos (by omega)]; rfl
    · rw [e1]; simp [arS]
  · by_cases hu : u = 0
    · subst hu
      have e0 : useN (arS 0 lo.length) (m : Int) = 0 := by
        unfold useN
        rw [if_pos ⟨rfl, by show (0 : Int) < m; omega⟩]; rfl
      refine (append_down w p _ mb _ _ A m c h okF hf (by omega) (by omega) e0).mono ?_
      rintro e w' ⟨rfl, hmv⟩
      have e1 : useS (arS 0 lo.length) (m : Int) = { arS 0 lo.length with n := 0, d := true } := useS_dead _ _ rfl (show (0 : Int) < m by omega)
      rw [Nat.zero_min, List.take_zero, List.append_nil]
      refine ⟨?_, _, mb, v, ?_, hmv⟩
      · rw [e1, if_neg (by omega)]; rfl
      · rw [e1]; show true = _; simp; omega
    · by_cases hlt : u < m
      · have e0 : useN (arS u lo.length) (m : Int) = ((u : Nat) : Int) := by
          unfold useN
          rw [if_pos ⟨rfl, by show (u : Int) < m; omega⟩]; rfl
        refine (append_put w p _ mb _ _ A m c lb u h okF hf (by omega) hlb e0 (by omega) hv).mono ?_
        rintro e w' ⟨rfl, mb', v', hmv⟩
        have e1 : useS (arS u lo.length) (m : Int) = { arS u lo.length with n := 0, d := true } := useS_dead _ _ rfl (show (u : Int) < m by omega)
        rw [byt_one, put_one] at hmv
        have hmin : min u m = u := by omega
        rw [hmin]
        refine ⟨?_, _, mb', v', ?_, hmv⟩
        · rw [e1, if_neg (by omega)]; rfl
        · rw [e1]; show true = _; simp; omega
      · have e0 : useN (arS u lo.length) (m : Int) = ((m : Nat) : Int) := by
          unfold useN
          rw [if_neg (fun h => by have h2 : (u : Int) < m := h.2; omega)]
        refine (append_put w p _ mb _ _ A m c lb m h okF hf (by omega) hlb e0 (by omega) hv).mono ?_
        rintro e w' ⟨rfl, mb', v', hmv⟩
        have e1 : useS (arS u lo.length) (m : Int) = { arS u lo.length with n := (u : Int) - m } := useS_live _ _ rfl (show ¬ (u : Int) < m by omega)
        rw [byt_one, put_one] at hmv
        have hmin : min u m = m := by omega
        rw [hmin]
        refine ⟨?_, _, mb', v', ?_, hmv⟩
        · rw [e1, if_pos rfl]; rfl
        · rw [e1]; show false = _; simp

/-- The first write, of a new store. -/
theorem d_new (w : World) (p : Nat) (lo : List Int) (A : Option Addr) (m c : Nat) (h : StR w p ⟨false, 0, false, 1000, 0⟩ none []) (hm : m ≤ 100) (hlo : lo.length = m) (hv : ∀ w', Off (own p none []) w w' → BAt w' (.slice A m c) lo) :
    Calls Try.prog 13 #[.pointer (some ⟨p, 0, none⟩), .string ({ data := #[102] } : ByteArray), .slice A m c] w fun e w' => e = .returned (.int .i64 0) ∧ ∃ b v', Mv w w' p none [] ⟨false, 0, false, 1000, (m : Int)⟩ (some b) [(({ data := #[102] } : ByteArray), v', lo)] := by
  have e0 : useN ⟨false, 0, false, 1000, 0⟩ (1 + (m : Int)) = (m : Int) + 1 := by
    unfold useN
    rw [if_neg (fun h => by cases h.1)]; omega
  refine (write_put w p _ none [] ({ data := #[102] } : ByteArray) A m c lo m h okF (by show ¬ (1000 : Int) < 0 - 0 + (m : Int); omega) (by omega) hlo e0 hv).mono ?_
  rintro e w' ⟨rfl, mb', v', hmv⟩
  have e1 : useS ⟨false, 0, false, 1000, 0⟩ (1 + (m : Int)) = ⟨false, 0, false, 1000, 0⟩ := by
    unfold useS
    rw [if_neg (by decide)]
  rw [e1] at hmv ⊢
  have hL : putL [] ({ data := #[102] } : ByteArray) (v', lo.take m) = [(({ data := #[102] } : ByteArray), v', lo)] := by rw [List.take_of_length_le (by omega)]; rfl
  rw [hL] at hmv
  obtain ⟨b, rfl⟩ := has_some hmv.st (has_one _ _ _)
  have e2 : (0 : Int) + ((m : Int) - (((bytL [] ({ data := #[102] } : ByteArray)).length : Nat) : Int)) = (m : Int) := by simp [bytL]
  simp only [e2] at hmv
  exact ⟨rfl, b, v', hmv⟩

theorem d_wri (w : World) (p : Nat) (mb : Option Nat) (v : Value) (lo lb : List Int) (A : Option Addr) (m c u : Nat) (h : StR w p (arS u lo.length) mb [(({ data := #[102] } : ByteArray), v, lo)]) (_hlo : lo.length ≤ 100) (hm : m ≤ 100) (hlb : lb.length = m) (hu : 0 < u)
    (hv : ∀ w', Off (own p mb [(({ data := #[102] } : ByteArray), v, lo)]) w w' → BAt w' (.slice A m c) lb) :
    Calls Try.prog 13 #[.pointer (some ⟨p, 0, none⟩), .string ({ data := #[102] } : ByteArray), .slice A m c] w fun e w' => e = .returned (.int .i64 (if min (u - 1) m = m then 0 else 14)) ∧
      ∃ s' mb' v', Mv w w' p mb [(({ data := #[102] } : ByteArray), v, lo)] s' mb' [(({ data := #[102] } : ByteArray), v', lb.take (min (u - 1) m))] := by
  have hf : ¬ (arS u lo.length).room < (arS u lo.length).used - ((bytL [(({ data := #[102] } : ByteArray), v, lo)] ({ data := #[102] } : ByteArray)).length : Int) + (m : Int) := by
    rw [byt_one]
    show ¬ (1000 : Int) < (lo.length : Int) - (lo.length : Int) + m
    omega
  by_cases hlt : u < 1 + m
  · have e0 : useN (arS u lo.length) (1 + (m : Int)) = ((u - 1 : Nat) : Int) + 1 := by
      unfold useN
      rw [if_pos ⟨rfl, by show (u : Int) < 1 + m; omega⟩]
      show (u : Int) = _
      omega
    refine (write_put w p _ mb _ _ A m c lb (u - 1) h okF hf (by omega) hlb e0 hv).mono ?_
    rintro e w' ⟨rfl, mb', v', hmv⟩
    have e1 : useS (arS u lo.length) (1 + (m : Int)) = { arS u lo.length with n := 0, d := true } := useS_dead _ _ rfl (show (u : Int) < 1 + m by omega)
    rw [put_one] at hmv
    have hmin : min (u - 1) m = u - 1 := by omega
    rw [hmin]
    refine ⟨?_, _, mb', v', hmv⟩
    rw [e1, if_neg (by omega)]; rfl
  · have e0 : useN (arS u lo.length) (1 + (m : Int)) = ((m : Nat) : Int) + 1 := by
      unfold useN
      rw [if_neg (fun h => by have h2 : (u : Int) < 1 + m := h.2; omega)]; omega
    refine (write_put w p _ mb _ _ A m c lb m h okF hf (by omega) hlb e0 hv).mono ?_
    rintro e w' ⟨rfl, mb', v', hmv⟩
    have e1 : useS (arS u lo.length) (1 + (m : Int)) = { arS u lo.length with n := (u : Int) - (1 + m) } := useS_live _ _ rfl (show ¬ (u : Int) < 1 + m by omega)
    rw [put_one] at hmv
    have hmin : min (u - 1) m = m := by omega
    rw [hmin]
    refine ⟨?_, _, mb', v', hmv⟩
    rw [e1, if_pos rfl]; rfl
theorem d_wri0 (w : World) (p : Nat) (mb : Option Nat) (v : Value) (lo : List Int) (A : Option Addr) (m c : Nat) (h : StR w p (arS 0 lo.length) mb [(({ data := #[102] } : ByteArray), v, lo)]) (_hlo : lo.length ≤ 100) (hm : m ≤ 100) :
    Calls Try.prog 13 #[.pointer (some ⟨p, 0, none⟩), .string ({ data := #[102] } : ByteArray), .slice A m c] w fun e w' => e = .returned (.int .i64 14) ∧ ∃ s', Mv w w' p mb [(({ data := #[102] } : ByteArray), v, lo)] s' mb [(({ data := #[102] } : ByteArray), v, lo)] := by
  have hf : ¬ (arS 0 lo.length).room < (arS 0 lo.length).used - ((bytL [(({ data := #[102] } : ByteArray), v, lo)] ({ data := #[102] } : ByteArray)).length : Int) + (m : Int) := by
    rw [byt_one]
    show ¬ (1000 : Int) < (lo.length : Int) - (lo.length : Int) + m
    omega
  have e0 : useN (arS 0 lo.length) (1 + (m : Int)) = 0 := by
    unfold useN
    rw [if_pos ⟨rfl, by show (0 : Int) < 1 + m; omega⟩]; rfl
  refine (write_down w p _ mb _ _ A m c h okF hf (by omega) e0).mono ?_
  rintro e w' ⟨rfl, hmv⟩
  have e1 : useS (arS 0 lo.length) (1 + (m : Int)) = { arS 0 lo.length with n := 0, d := true } := useS_dead _ _ rfl (show (0 : Int) < 1 + m by omega)
  exact ⟨by rw [e1]; rfl, _, hmv⟩

theorem fndFG (v : Value) (lo : List Int) : fnd false [(({ data := #[102] } : ByteArray), v, lo)] ({ data := #[102] } : ByteArray) [({ data := #[103] } : ByteArray), ({ data := #[102] } : ByteArray)] = 0 := by
  unfold fnd
  rw [okFG, if_neg (by decide), has_one, if_pos rfl]
/-- The rename: q says whether there was a unit. -/
theorem d_ren (w : World) (p : Nat) (mb : Option Nat) (v : Value) (lo : List Int) (u : Nat) (h : StR w p (arS (u % 2) lo.length) mb [(({ data := #[102] } : ByteArray), v, lo)]) (q : Bool) (hq : q = decide (u % 2 = 1)) :
    Calls Try.prog 17 #[.pointer (some ⟨p, 0, none⟩), .string ({ data := #[102] } : ByteArray), .string ({ data := #[103] } : ByteArray)] w fun e w' => e = .returned (.int .i64 (if q = true then 0 else 14)) ∧
      ∃ s' mb' L', Mv w w' p mb [(({ data := #[102] } : ByteArray), v, lo)] s' mb' L' ∧ hasL L' ({ data := #[102] } : ByteArray) = !q ∧ hasL L' ({ data := #[103] } : ByteArray) = q ∧ (q = true → bytL L' ({ data := #[103] } : ByteArray) = lo) := by
  by_cases h1 : u % 2 = 1
  · have e0 : useN (arS (u % 2) lo.length) 1 = 1 := by
      unfold useN
      rw [if_neg (fun h => by have h2 : ((u % 2 : Nat) : Int) < 1 := h.2; omega)]
    refine (rename_put w p _ mb _ ({ data := #[102] } : ByteArray) ({ data := #[103] } : ByteArray) h (fndFG v lo) e0 (has_one _ _ _) (by decide)).mono ?_
    rintro e w' ⟨rfl, mb', hmv⟩
    have e1 : useS (arS (u % 2) lo.length) 1 = { arS (u % 2) lo.length with n := ((u % 2 : Nat) : Int) - 1 } := useS_live _ _ rfl (show ¬ ((u % 2 : Nat) : Int) < 1 by omega)
    have hqt : q = true := by rw [hq]; simpa using h1
    subst hqt
    have hL : putL (delL [(({ data := #[102] } : ByteArray), v, lo)] ({ data := #[102] } : ByteArray)) ({ data := #[103] } : ByteArray) (valL [(({ data := #[102] } : ByteArray), v, lo)] ({ data := #[102] } : ByteArray), bytL [(({ data := #[102] } : ByteArray), v, lo)] ({ data := #[102] } : ByteArray)) = [(({ data := #[103] } : ByteArray), v, lo)] := by
      simp [putL, delL, valL, bytL]
    rw [hL] at hmv
    refine ⟨by rw [e1]; rfl, _, mb', _, hmv, ?_, has_one _ _ _, fun _ => byt_one _ _ _⟩
    simp [hasL]
  · have e0 : useN (arS (u % 2) lo.length) 1 = 0 := by
      unfold useN
      have h2 : u % 2 = 0 := by omega
      rw [if_pos ⟨rfl, by show ((u % 2 : Nat) : Int) < 1; omega⟩]
      show ((u % 2 : Nat) : Int) = 0
      omega
    refine (rename_down w p _ mb _ ({ data := #[102] } : ByteArray) ({ data := #[103] } : ByteArray) h (fndFG v lo) e0).mono ?_
    rintro e w' ⟨rfl, hmv⟩
    have e1 : useS (arS (u % 2) lo.length) 1 = { arS (u % 2) lo.length with n := 0, d := true } := useS_dead _ _ rfl (show ((u % 2 : Nat) : Int) < 1 by omega)
    have hqf : q = false := by rw [hq]; simpa using h1
    subst hqf
    refine ⟨by rw [e1]; rfl, _, mb, _, hmv, has_one _ _ _, ?_, fun h => by cases h⟩
    simp [hasL]
end Go.Proofs.Ytffeinbbgfogoaa.Sr
