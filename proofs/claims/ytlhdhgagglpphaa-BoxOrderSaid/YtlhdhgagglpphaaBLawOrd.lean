/-
  The law BoxOrder answers true: its walk. Conditions: the slice that came in, read up to its fortieth place.
-/
import Derived.Test.YtlhdhgagglpphaaBKnown
namespace Go.Proofs.Ytlhdhgagglpphaa.Bx
open Go.RowKit Go.Conc

/-- The numbers from a up to b. -/
def upto (a b : Nat) : List Int := (List.range' a (b - a)).map fun (n : Nat) => (n : Int)
theorem upto_len (a b : Nat) : (upto a b).length = b - a := by simp [upto]
theorem upto_snoc (a b : Nat) (h : a ≤ b) : upto a b ++ [(b : Int)] = upto a (b + 1) := by
  unfold upto
  rw [show b + 1 - a = (b - a) + 1 by omega, List.range'_concat, List.map_append, show a + 1 * (b - a) = b by omega]
  rfl
theorem upto_cons (a b : Nat) (h : a < b) : upto a b = (a : Int) :: upto (a + 1) b := by
  unfold upto
  rw [show b - a = (b - (a + 1)) + 1 by omega, List.range'_succ]
  rfl
theorem upto_nil (a : Nat) : upto a a = [] := by simp [upto]
/-- What is told of the slice that came in. -/
def BoolIn (w : World) (A : Option Addr) (len n : Nat) (B : Nat → Bool) : Prop :=
  n = min len 40 ∧ (0 < n → ∃ g o, A = some ⟨g, o, none⟩ ∧ g < w.heap.size ∧ ∀ i, i < n → w.cell? ⟨g, o + i, none⟩ = some (.bool (B i)))

set_option maxRecDepth 100000 in
set_option maxHeartbeats 4000000 in
theorem law_order (kd : Int) (w : World) (A : Option Addr) (len cap n : Nat) (B : Nat → Bool) (hin : BoolIn w A len n B) :
    Calls Try.prog 4 #[.int .i64 kd, .slice A len cap] w fun e w' => e = .returned (.bool true) ∧ Below w.heap.size w w' := by
  have hm0 : 0 ≤ (IntKind.u64.wrap kd).tmod 20 ∧ (IntKind.u64.wrap kd).tmod 20 ≤ 19 := by
    have h1 : 0 ≤ IntKind.u64.wrap kd := by rw [IntKind.wrap_u64]; omega
    rw [Int.tmod_eq_emod_of_nonneg h1]; omega
  obtain ⟨m, hm⟩ : ∃ m, (IntKind.u64.wrap kd).tmod 20 = m := ⟨_, rfl⟩
  rw [hm] at hm0
  obtain ⟨k, hk⟩ : ∃ k : Nat, (k : Int) = 1 + m := ⟨(1 + m).toNat, by omega⟩
  have hwm : IntKind.i64.wrap m = m := by rw [IntKind.wrap_i64]; omega
  have hwk : IntKind.i64.wrap (1 + m) = (k : Int) := by rw [IntKind.wrap_i64]; omega
  have hk1 : 1 ≤ k := by omega
  have hk2 : k ≤ 20 := by omega
  have CN := Lib.hid (I.new_any w k hk1 (by omega))
  clear hm0 hk
  go_enter Try.func4, Try.ntmps4
  go_wp2_with (go_at_call 11; (with_reducible refine CN.out.mono ?_); rintro e w1 ⟨b, c, rfl, hb0, k1⟩; have B0 := Lib.hid hb0; have K1 := Lib.hid k1; clear hb0 k1)
  have HIN := Lib.hid hin
  have hn40 : n ≤ 40 := by have := hin.1; omega
  have hnl : n ≤ len := by have := hin.1; omega
  have hstop : Hid ((n < len ∧ ¬ n < 40) ∨ ¬ n < len) := by have := hin.1; show _ ∨ _; omega
  clear hin
  have h0 : Hid (I.BoxR w.heap.size w1 b c k (upto 0 0)) := B0.out
  have z1 := K1.out.size
  go_loopg [7, 8, 9] n (fun (gh : Nat) s7 s8 s9 wx => ∃ i nx la : Nat, gh = n - i ∧ i ≤ n ∧ nx ≤ i ∧ la ≤ nx ∧ nx - la ≤ k ∧ s7 = .int .i64 (nx : Int) ∧ s8 = .int .i64 (la : Int) ∧ s9 = .int .i64 (i : Int) ∧ Hid (I.BoxR w.heap.size wx b c k (upto la nx)) ∧ Hid (w1.grownBy wx (some c)))
  case atStart => exact ⟨0, 0, 0, rfl, Nat.zero_le _, Nat.le_refl _, Nat.le_refl _, Nat.zero_le _, rfl, rfl, rfl, h0, grownBy_refl _ _⟩
  case round =>
    obtain ⟨i, nx, la, rfl, hi, h1, h2, h3, rfl, rfl, rfl, BX, KX⟩ := hrel
    by_cases hlt : i < n
    · have t1 : (i : Int) < (len : Int) := by omega
      have t2 : (i : Int) < 40 := by omega
      have t3 : (0 : Int) ≤ (i : Int) := by omega
      have e1 : IntKind.i64.wrap ((nx : Int) + 1) = ((nx + 1 : Nat) : Int) := by rw [IntKind.wrap_i64]; omega
      have e2 : IntKind.i64.wrap ((la : Int) + 1) = ((la + 1 : Nat) : Int) := by rw [IntKind.wrap_i64]; omega
      have e3 : IntKind.i64.wrap ((i : Int) + 1) = ((i + 1 : Nat) : Int) := by rw [IntKind.wrap_i64]; omega
      obtain ⟨g, o, rfl, hgl, hcell⟩ := HIN.out.2 (by omega)
      have c1 : wr.cell? ⟨g, o + i, none⟩ = some (.bool (B i)) := by
        have hb := KX.out.block g (by omega) (fun e => by cases e; have := B0.out.lt.2.1; omega)
        have hc := (K1.out.cell (p := ⟨g, o + i, none⟩) hgl).trans (hcell i hlt)
        simp only [World.cell?, hb] at hc ⊢
        exact hc
      obtain ⟨bi, hbi⟩ : ∃ bi, bi = B i := ⟨_, rfl⟩
      rw [← hbi] at c1
      have EM := Lib.hid (show (n - (i + 1) < n - i) by omega)
      clear hcell hbi hi
      cases bi
      · by_cases hr : nx - la < k
        · have hp := Lib.hid (I.put_room _ wr b c k _ (nx : Int) BX.out (by rw [upto_len]; exact hr))
          rw [upto_snoc la nx h2] at hp
          have HRR := Lib.hid (show nx + 1 - la ≤ k by omega)
          clear hr
          go_wp2_with (go_at_call 12; refine hp.out.mono ?_; rintro e w2 ⟨rfl, hb2, k2⟩)
          go_roundg (n - (i + 1))
          case measure => exact EM.out
          case rel => exact ⟨i + 1, nx + 1, la, rfl, hlt, by omega, by omega, HRR.out, by go_num, rfl, by go_num, hb2, grownBy_trans KX.out k2⟩
        · have hp := Lib.hid (I.put_full _ wr b c k _ (nx : Int) BX.out (by rw [upto_len]; omega))
          have e4 : IntKind.i64.wrap ((nx : Int) - (la : Int)) = (k : Int) := by rw [IntKind.wrap_i64]; omega
          clear hr
          go_wp2_with (go_at_call 12; refine hp.out.mono ?_; rintro e w2 ⟨rfl, hb2, k2⟩)
          go_roundg (n - (i + 1))
          case measure => exact EM.out
          case rel => exact ⟨i + 1, nx, la, rfl, hlt, by omega, by omega, by omega, rfl, rfl, by go_num, hb2, grownBy_trans KX.out (grownBy_of_below _ k2)⟩
      · by_cases hr : la < nx
        · have bx := BX.out
          rw [upto_cons la nx hr] at bx
          have hp := Lib.hid (I.take_some _ wr b c k _ _ bx)
          clear bx
          go_wp2_with (go_at_call 13; refine hp.out.mono ?_; rintro e w2 ⟨rfl, hb2, k2⟩)
          go_roundg (n - (i + 1))
          case measure => exact EM.out
          case rel => exact ⟨i + 1, nx, la + 1, rfl, hlt, by omega, by omega, by omega, rfl, by go_num, by go_num, hb2, grownBy_trans KX.out k2⟩
        · obtain rfl : la = nx := by omega
          have bx := BX.out
          rw [upto_nil] at bx
          have hp := Lib.hid (I.take_none _ wr b c k bx)
          clear bx hr
          go_wp2_with (go_at_call 13; refine hp.out.mono ?_; rintro e w2 ⟨rfl, rfl⟩)
          go_roundg (n - (i + 1))
          case measure => exact EM.out
          case rel => exact ⟨i + 1, la, la, rfl, hlt, by omega, by omega, by omega, rfl, rfl, by go_num, BX, KX⟩
    · obtain rfl : i = n := by omega
      have e4 : IntKind.i64.wrap ((nx : Int) - (la : Int)) = ((nx - la : Nat) : Int) := by rw [IntKind.wrap_i64]; omega
      have HL := Lib.hid (fun W hW => I.len_any _ W b c k _ (BX.out.kept (w' := W) hW))
      rw [upto_len] at HL
      have zx := KX.out.size
      rcases hstop.out with ⟨s1, s2⟩ | s1
      all_goals
        have r1 : Hid (¬ ((i : Int) < (len : Int)) ∨ ¬ ((i : Int) < 40)) := by show _ ∨ _; omega
        go_wp2_with (first
          | (go_at_call 7; refine (known_any _).mono ?_; rintro e w2 ⟨rfl, k2⟩)
          | (go_at_call 14; refine (HL.out w2 k2).mono ?_; rintro e w3 ⟨rfl, rfl⟩))
        go_ret
        exact ⟨rfl, (K1.out.trans (below_of_grown KX.out B0.out.lt.2.1 z1)).trans (k2.mono (by omega))⟩
end Go.Proofs.Ytlhdhgagglpphaa.Bx
