/-
  The contract of the reference's 'Fits' (at 64 and 128 bits). Conditions: the value reads as a number.
-/
import Derived.Test.YtjnohdkpkbiclaaFits
namespace Go.Proofs.Ytjnohdkpkbiclaa
open Go.RowKit

theorem fld_D (b : Bool) (A : Option Addr) (n c : Nat) (w : World) : (Instr.field 25 (.agg #[.bool b, .slice A n c]) 1).run Try.prog w = .ok (.slice A n c) w := by kernel_rfl

theorem cmpN_le (m n : Nat) : (cmpN m n ≤ 0) = (m ≤ n) := by
  unfold cmpN
  apply propext
  split
  · constructor <;> intros <;> omega
  · split
    · constructor <;> intros <;> omega
    · constructor <;> intros <;> omega

set_option maxRecDepth 100000 in
set_option maxHeartbeats 1000000 in
theorem fits64_any (w : World) (v : Value) (z : Int) (h : NumIs w v z) :
    Calls Try.prog 41 #[v, .int .i64 64] w fun e w' => e = .returned (.bool (decide (-9223372036854775808 ≤ z ∧ z < 9223372036854775808))) ∧ Below w.heap.size w w' := by
  obtain ⟨A, n, c, rfl, hd⟩ := h
  have HD := Lib.hid hd
  clear hd
  by_cases hz : z < 0
  · have hp : ∀ W : World, Calls Try.prog 60 #[.int .i64 63, .int .i64 0] W fun e w' => ∃ u, e = .returned u ∧ NumIs w' u 9223372036854775808 ∧ Below W.heap.size W w' := fun W => power63_any W 0 (by decide) (by decide)
    have HP := Lib.hid hp
    have hres : Hid ((decide (cmpN z.natAbs 9223372036854775808 ≤ 0)) = decide (-9223372036854775808 ≤ z ∧ z < 9223372036854775808)) := by
      show _ = _
      simp only [cmpN_le]
      congr 1; apply propext; constructor <;> intros <;> omega
    rw [decide_eq_true hz]
    clear hp hz
    have hfld := fld_D
    obtain ⟨cm, hcm⟩ : ∃ cm, cm = cmpN z.natAbs 9223372036854775808 := ⟨_, rfl⟩
    rw [← hcm] at hres
    have HC := Lib.hid hcm
    clear hcm
    go_enter Try.func41, Try.ntmps41
    go_wp2
    go_region_held3 (fun w' => w'.cell? ⟨w.heap.size, 1, none⟩ = some (.slice A n c)) (first | assumption | (simp [go_sem]; done))
      (first
        | (go_at_call 60; refine (HP.out _).mono ?_; rintro e w1 ⟨u, rfl, ⟨A2, n2, c2, rfl, hd2⟩, hb⟩; have hs1 : w1.cell? ⟨w.heap.size, 1, none⟩ = some (.slice A n c) := (hb.cell (p := ⟨w.heap.size, 1, none⟩) (by simp)).trans (by simp [go_sem]); have hdA := Lib.hid ((HD.out.alloc (.cells #[.bool true, .slice A n c] 25)).drew.below hb (Nat.le_refl _)); have hdB := Lib.hid hd2; have HBEL := Lib.hid hb; clear hd2 hb)
        | (go_at_call 40; refine (size_any _ _ _ z.natAbs 9223372036854775808 hdA.out hdB.out).mono ?_; rw [← HC.out]; rintro e w2 ⟨rfl, nd, rfl⟩))
    go_wp2
    go_ret
    exact ⟨ret_bool hres.out, below_drewN ((((Below.refl _ _).alloc (Nat.le_refl _) _).drew).trans (HBEL.out.mono (by simp))) _⟩
  · have hp : ∀ W : World, Calls Try.prog 60 #[.int .i64 63, .int .i64 1] W fun e w' => ∃ u, e = .returned u ∧ NumIs w' u 9223372036854775807 ∧ Below W.heap.size W w' := fun W => power63_any W 1 (by decide) (by decide)
    have HP := Lib.hid hp
    have hres : Hid ((decide (cmpN z.natAbs 9223372036854775807 ≤ 0)) = decide (-9223372036854775808 ≤ z ∧ z < 9223372036854775808)) := by
      show _ = _
      simp only [cmpN_le]
      congr 1; apply propext; constructor <;> intros <;> omega
    rw [decide_eq_false hz]
    clear hp hz
    have hfld := fld_D
    obtain ⟨cm, hcm⟩ : ∃ cm, cm = cmpN z.natAbs 9223372036854775807 := ⟨_, rfl⟩
    rw [← hcm] at hres
    have HC := Lib.hid hcm
    clear hcm
    go_enter Try.func41, Try.ntmps41
    go_wp2
    go_region_held3 (fun w' => w'.cell? ⟨w.heap.size, 1, none⟩ = some (.slice A n c)) (first | assumption | (simp [go_sem]; done))
      (first
        | (go_at_call 60; refine (HP.out _).mono ?_; rintro e w1 ⟨u, rfl, ⟨A2, n2, c2, rfl, hd2⟩, hb⟩; have hs1 : w1.cell? ⟨w.heap.size, 1, none⟩ = some (.slice A n c) := (hb.cell (p := ⟨w.heap.size, 1, none⟩) (by simp)).trans (by simp [go_sem]); have hdA := Lib.hid ((HD.out.alloc (.cells #[.bool false, .slice A n c] 25)).drew.below hb (Nat.le_refl _)); have hdB := Lib.hid hd2; have HBEL := Lib.hid hb; clear hd2 hb)
        | (go_at_call 40; refine (size_any _ _ _ z.natAbs 9223372036854775807 hdA.out hdB.out).mono ?_; rw [← HC.out]; rintro e w2 ⟨rfl, nd, rfl⟩))
    go_wp2
    go_ret
    exact ⟨ret_bool hres.out, below_drewN ((((Below.refl _ _).alloc (Nat.le_refl _) _).drew).trans (HBEL.out.mono (by simp))) _⟩

set_option maxRecDepth 100000 in
set_option maxHeartbeats 1000000 in
theorem fits128_any (w : World) (v : Value) (z : Int) (h : NumIs w v z) :
    Calls Try.prog 41 #[v, .int .i64 128] w fun e w' => e = .returned (.bool (decide (-170141183460469231731687303715884105728 ≤ z ∧ z < 170141183460469231731687303715884105728))) ∧ Below w.heap.size w w' := by
  obtain ⟨A, n, c, rfl, hd⟩ := h
  have HD := Lib.hid hd
  clear hd
  by_cases hz : z < 0
  · have hp : ∀ W : World, Calls Try.prog 60 #[.int .i64 127, .int .i64 0] W fun e w' => ∃ u, e = .returned u ∧ NumIs w' u 170141183460469231731687303715884105728 ∧ Below W.heap.size W w' := fun W => power127_any W 0 (by decide) (by decide)
    have HP := Lib.hid hp
    have hres : Hid ((decide (cmpN z.natAbs 170141183460469231731687303715884105728 ≤ 0)) = decide (-170141183460469231731687303715884105728 ≤ z ∧ z < 170141183460469231731687303715884105728)) := by
      show _ = _
      simp only [cmpN_le]
      congr 1; apply propext; constructor <;> intros <;> omega
    rw [decide_eq_true hz]
    clear hp hz
    have hfld := fld_D
    obtain ⟨cm, hcm⟩ : ∃ cm, cm = cmpN z.natAbs 170141183460469231731687303715884105728 := ⟨_, rfl⟩
    rw [← hcm] at hres
    have HC := Lib.hid hcm
    clear hcm
    go_enter Try.func41, Try.ntmps41
    go_wp2
    go_region_held3 (fun w' => w'.cell? ⟨w.heap.size, 1, none⟩ = some (.slice A n c)) (first | assumption | (simp [go_sem]; done))
      (first
        | (go_at_call 60; refine (HP.out _).mono ?_; rintro e w1 ⟨u, rfl, ⟨A2, n2, c2, rfl, hd2⟩, hb⟩; have hs1 : w1.cell? ⟨w.heap.size, 1, none⟩ = some (.slice A n c) := (hb.cell (p := ⟨w.heap.size, 1, none⟩) (by simp)).trans (by simp [go_sem]); have hdA := Lib.hid ((HD.out.alloc (.cells #[.bool true, .slice A n c] 25)).drew.below hb (Nat.le_refl _)); have hdB := Lib.hid hd2; have HBEL := Lib.hid hb; clear hd2 hb)
        | (go_at_call 40; refine (size_any _ _ _ z.natAbs 170141183460469231731687303715884105728 hdA.out hdB.out).mono ?_; rw [← HC.out]; rintro e w2 ⟨rfl, nd, rfl⟩))
    go_wp2
    go_ret
    exact ⟨ret_bool hres.out, below_drewN ((((Below.refl _ _).alloc (Nat.le_refl _) _).drew).trans (HBEL.out.mono (by simp))) _⟩
  · have hp : ∀ W : World, Calls Try.prog 60 #[.int .i64 127, .int .i64 1] W fun e w' => ∃ u, e = .returned u ∧ NumIs w' u 170141183460469231731687303715884105727 ∧ Below W.heap.size W w' := fun W => power127_any W 1 (by decide) (by decide)
    have HP := Lib.hid hp
    have hres : Hid ((decide (cmpN z.natAbs 170141183460469231731687303715884105727 ≤ 0)) = decide (-170141183460469231731687303715884105728 ≤ z ∧ z < 170141183460469231731687303715884105728)) := by
      show _ = _
      simp only [cmpN_le]
      congr 1; apply propext; constructor <;> intros <;> omega
    rw [decide_eq_false hz]
    clear hp hz
    have hfld := fld_D
    obtain ⟨cm, hcm⟩ : ∃ cm, cm = cmpN z.natAbs 170141183460469231731687303715884105727 := ⟨_, rfl⟩
    rw [← hcm] at hres
    have HC := Lib.hid hcm
    clear hcm
    go_enter Try.func41, Try.ntmps41
    go_wp2
    go_region_held3 (fun w' => w'.cell? ⟨w.heap.size, 1, none⟩ = some (.slice A n c)) (first | assumption | (simp [go_sem]; done))
      (first
        | (go_at_call 60; refine (HP.out _).mono ?_; rintro e w1 ⟨u, rfl, ⟨A2, n2, c2, rfl, hd2⟩, hb⟩; have hs1 : w1.cell? ⟨w.heap.size, 1, none⟩ = some (.slice A n c) := (hb.cell (p := ⟨w.heap.size, 1, none⟩) (by simp)).trans (by simp [go_sem]); have hdA := Lib.hid ((HD.out.alloc (.cells #[.bool false, .slice A n c] 25)).drew.below hb (Nat.le_refl _)); have hdB := Lib.hid hd2; have HBEL := Lib.hid hb; clear hd2 hb)
        | (go_at_call 40; refine (size_any _ _ _ z.natAbs 170141183460469231731687303715884105727 hdA.out hdB.out).mono ?_; rw [← HC.out]; rintro e w2 ⟨rfl, nd, rfl⟩))
    go_wp2
    go_ret
    exact ⟨ret_bool hres.out, below_drewN ((((Below.refl _ _).alloc (Nat.le_refl _) _).drew).trans (HBEL.out.mono (by simp))) _⟩

end Go.Proofs.Ytjnohdkpkbiclaa
