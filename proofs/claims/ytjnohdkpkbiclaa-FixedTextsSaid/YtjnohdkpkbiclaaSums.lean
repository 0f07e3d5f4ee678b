/-
  The contracts of the program's Add, Sub, Mul and Sum of 64 bits. Conditions: the types' own ranges; Sum's list has at most 1000 numbers.
-/
import Derived.Test.YtjnohdkpkbiclaaLaws
import Derived.Test.YtjnohdkpkbiclaaTimes
import Derived.Test.YtjnohdkpkbiclaaInt
namespace Go.Proofs.Ytjnohdkpkbiclaa
open Go.RowKit

/-- An answer of 64 bits is what it must be. -/
def NSpec (z n er : Int) : Prop := (In64 z ∧ n = z ∧ er = 0) ∨ (¬ In64 z ∧ n = 0 ∧ er = 4)

theorem narrow_ok (w : World) (v : Value) (z n er : Int) (hs : Hid (NSpec z n er)) (hv : NumIs w v z) :
    Calls Try.prog 15 #[.int .i64 n, .int .i64 er, v] w fun e w' => e = .returned (.bool true) ∧ Below w.heap.size w w' := by
  rcases hs.out with ⟨h, rfl, rfl⟩ | ⟨h, rfl, rfl⟩
  · exact narrow_fits w v _ hv h
  · exact narrow_over w v _ hv h
theorem int_is (w : World) (h l : Int) (k : WOk h l) {z : Int} (hz : Hid (z = wv h l)) :
    Calls Try.prog 23 #[.agg #[.int .i64 h, .int .u64 l]] w fun e w' => ∃ n er, e = .returned (.tuple #[.int .i64 n, .int .i64 er]) ∧ Hid (NSpec z n er) ∧ Below w.heap.size w w' := by
  rw [hz.out]
  by_cases f : In64 (wv h l)
  · exact (int_yes w h l k f.1 (Int.le_of_lt_add_one f.2)).mono fun e w' ⟨he, hb⟩ => ⟨_, _, he, .inl ⟨f, rfl, rfl⟩, hb⟩
  · exact (int_no w h l k (fun g => f ⟨g.1, Int.lt_add_one_of_le g.2⟩)).mono fun e w' ⟨he, hb⟩ => ⟨_, _, he, .inr ⟨f, rfl, rfl⟩, hb⟩
theorem of_is (w : World) (a : Int) (a0 : -9223372036854775808 ≤ a) (a1 : a ≤ 9223372036854775807) :
    Calls Try.prog 25 #[.int .i64 a] w fun e w' => ∃ h l, e = .returned (.agg #[.int .i64 h, .int .u64 l]) ∧ Hid (WOk h l ∧ Hid (a = wv h l)) ∧ Below w.heap.size w w' := by
  obtain ⟨k, e⟩ := of_ok a0 a1
  exact (of_any w a _ _ a0 a1 rfl rfl).mono fun _ w' ⟨he, hb⟩ => ⟨_, _, he, ⟨k, e.symm⟩, hb⟩
theorem w128_in {z : Int} (h : In128 z) : w128 z = z := by
  have h0 := h.1
  have h1 := h.2
  unfold w128; omega
theorem join_is (w : World) (a b c d : Int) (k : WOk a b) (k' : WOk c d) {x y z : Int} (hx : Hid (x = wv a b)) (hy : Hid (y = wv c d)) (hz : Hid (z = x + y)) (hr : Hid (In128 z)) :
    Calls Try.prog 36 #[.agg #[.int .i64 a, .int .u64 b], .agg #[.int .i64 c, .int .u64 d]] w fun e w' => ∃ h l, e = .returned (.agg #[.int .i64 h, .int .u64 l]) ∧ Hid (WOk h l ∧ Hid (z = wv h l)) ∧ Below w.heap.size w w' := by
  refine (join_any w a b c d k k').mono ?_
  rintro e w' ⟨h, l, he, hs, hb⟩
  exact ⟨h, l, he, ⟨hs.out.1, by show _ = _; rw [hs.out.2, ← hx.out, ← hy.out, ← hz.out, w128_in hr.out]⟩, hb⟩
theorem part_is (w : World) (a b c d : Int) (k : WOk a b) (k' : WOk c d) {x y z : Int} (hx : Hid (x = wv a b)) (hy : Hid (y = wv c d)) (hz : Hid (z = x - y)) (hr : Hid (In128 z)) :
    Calls Try.prog 37 #[.agg #[.int .i64 a, .int .u64 b], .agg #[.int .i64 c, .int .u64 d]] w fun e w' => ∃ h l, e = .returned (.agg #[.int .i64 h, .int .u64 l]) ∧ Hid (WOk h l ∧ Hid (z = wv h l)) ∧ Below w.heap.size w w' := by
  refine (part_any w a b c d k k').mono ?_
  rintro e w' ⟨h, l, he, hs, hb⟩
  exact ⟨h, l, he, ⟨hs.out.1, by show _ = _; rw [hs.out.2, ← hx.out, ← hy.out, ← hz.out, w128_in hr.out]⟩, hb⟩
theorem times_num (w : World) (a b : Int) (a0 : -9223372036854775808 ≤ a) (a1 : a ≤ 9223372036854775807) (b0 : -9223372036854775808 ≤ b) (b1 : b ≤ 9223372036854775807) {p : Int} (hp : Hid (p = a * b)) :
    Calls Try.prog 26 #[.int .i64 a, .int .i64 b] w fun e w' => ∃ h l, e = .returned (.agg #[.int .i64 h, .int .u64 l]) ∧ Hid (WOk h l ∧ Hid (p = wv h l)) ∧ Below w.heap.size w w' := by
  refine (times_any w a b a0 a1 b0 b1).mono ?_
  rintro e w' ⟨h, l, he, hs, hb⟩
  exact ⟨h, l, he, ⟨hs.out.1, hp.out.trans hs.out.2.symm⟩, hb⟩

set_option maxRecDepth 100000 in
set_option maxHeartbeats 1000000 in
theorem fadd_any (w : World) (a b : Int) (a0 : -9223372036854775808 ≤ a) (a1 : a ≤ 9223372036854775807) (b0 : -9223372036854775808 ≤ b) (b1 : b ≤ 9223372036854775807) :
    Calls Try.prog 9 #[.int .i64 a, .int .i64 b] w fun e w' => ∃ n er, e = .returned (.tuple #[.int .i64 n, .int .i64 er]) ∧ Hid (NSpec (a + b) n er) ∧ Below w.heap.size w w' := by
  obtain ⟨z, hz⟩ : ∃ z, z = a + b := ⟨_, rfl⟩
  have HR : Hid (In128 z) := by show In128 z; rw [hz]; constructor <;> omega
  rw [← hz]
  have HZ := Lib.hid hz
  have RA := Lib.hid (And.intro a0 a1)
  have RB := Lib.hid (And.intro b0 b1)
  clear hz a0 a1 b0 b1
  go_enter Try.func9, Try.ntmps9
  go_wp2_with (first
    | (go_at_call 25; (with_reducible refine (of_is _ a RA.out.1 RA.out.2).mono ?_); rintro e w1 ⟨h1, l1, rfl, K1, b1⟩; have B1 := Lib.hid b1; clear b1)
    | (go_at_call 25; (with_reducible refine (of_is _ b RB.out.1 RB.out.2).mono ?_); rintro e w2 ⟨h2, l2, rfl, K2, b2⟩; have B2 := Lib.hid (B1.out.trans (b2.mono B1.out.size)); clear b2)
    | (go_at_call 36; (with_reducible refine (join_is _ h1 l1 h2 l2 K1.out.1 K2.out.1 K1.out.2 K2.out.2 HZ HR).mono ?_); rintro e w3 ⟨h3, l3, rfl, K3, b3⟩; have B3 := Lib.hid (B2.out.trans (b3.mono B2.out.size)); clear b3)
    | (go_at_call 23; (with_reducible refine (int_is _ h3 l3 K3.out.1 K3.out.2).mono ?_); rintro e w4 ⟨n4, er4, rfl, K4, b4⟩; have B4 := Lib.hid (B3.out.trans (b4.mono B3.out.size)); clear b4))
  go_ret2
  exact ⟨_, _, rfl, K4, B4.out⟩

set_option maxRecDepth 100000 in
set_option maxHeartbeats 1000000 in
theorem fsub_any (w : World) (a b : Int) (a0 : -9223372036854775808 ≤ a) (a1 : a ≤ 9223372036854775807) (b0 : -9223372036854775808 ≤ b) (b1 : b ≤ 9223372036854775807) :
    Calls Try.prog 10 #[.int .i64 a, .int .i64 b] w fun e w' => ∃ n er, e = .returned (.tuple #[.int .i64 n, .int .i64 er]) ∧ Hid (NSpec (a - b) n er) ∧ Below w.heap.size w w' := by
  obtain ⟨z, hz⟩ : ∃ z, z = a - b := ⟨_, rfl⟩
  have HR : Hid (In128 z) := by show In128 z; rw [hz]; constructor <;> omega
  rw [← hz]
  have HZ := Lib.hid hz
  have RA := Lib.hid (And.intro a0 a1)
  have RB := Lib.hid (And.intro b0 b1)
  clear hz a0 a1 b0 b1
  go_enter Try.func10, Try.ntmps10
  go_wp2_with (first
    | (go_at_call 25; (with_reducible refine (of_is _ a RA.out.1 RA.out.2).mono ?_); rintro e w1 ⟨h1, l1, rfl, K1, b1⟩; have B1 := Lib.hid b1; clear b1)
    | (go_at_call 25; (with_reducible refine (of_is _ b RB.out.1 RB.out.2).mono ?_); rintro e w2 ⟨h2, l2, rfl, K2, b2⟩; have B2 := Lib.hid (B1.out.trans (b2.mono B1.out.size)); clear b2)
    | (go_at_call 37; (with_reducible refine (part_is _ h1 l1 h2 l2 K1.out.1 K2.out.1 K1.out.2 K2.out.2 HZ HR).mono ?_); rintro e w3 ⟨h3, l3, rfl, K3, b3⟩; have B3 := Lib.hid (B2.out.trans (b3.mono B2.out.size)); clear b3)
    | (go_at_call 23; (with_reducible refine (int_is _ h3 l3 K3.out.1 K3.out.2).mono ?_); rintro e w4 ⟨n4, er4, rfl, K4, b4⟩; have B4 := Lib.hid (B3.out.trans (b4.mono B3.out.size)); clear b4))
  go_ret2
  exact ⟨_, _, rfl, K4, B4.out⟩

set_option maxRecDepth 100000 in
set_option maxHeartbeats 1000000 in
theorem fmul_any (w : World) (a b : Int) (a0 : -9223372036854775808 ≤ a) (a1 : a ≤ 9223372036854775807) (b0 : -9223372036854775808 ≤ b) (b1 : b ≤ 9223372036854775807) :
    Calls Try.prog 11 #[.int .i64 a, .int .i64 b] w fun e w' => ∃ n er, e = .returned (.tuple #[.int .i64 n, .int .i64 er]) ∧ Hid (NSpec (a * b) n er) ∧ Below w.heap.size w w' := by
  obtain ⟨z, hz⟩ : ∃ z, z = a * b := ⟨_, rfl⟩
  rw [← hz]
  have HZ := Lib.hid hz
  have RA := Lib.hid (And.intro a0 a1)
  have RB := Lib.hid (And.intro b0 b1)
  clear hz a0 a1 b0 b1
  go_enter Try.func11, Try.ntmps11
  go_wp2_with (first
    | (go_at_call 26; (with_reducible refine (times_num _ a b RA.out.1 RA.out.2 RB.out.1 RB.out.2 HZ).mono ?_); rintro e w3 ⟨h3, l3, rfl, K3, b3⟩; have B3 := Lib.hid b3; clear b3)
    | (go_at_call 23; (with_reducible refine (int_is _ h3 l3 K3.out.1 K3.out.2).mono ?_); rintro e w4 ⟨n4, er4, rfl, K4, b4⟩; have B4 := Lib.hid (B3.out.trans (b4.mono B3.out.size)); clear b4))
  go_ret2
  exact ⟨_, _, rfl, K4, B4.out⟩

/-- The sum of a list. -/
def tot : List Int → Int
  | [] => 0
  | z :: r => z + tot r
theorem tot_snoc (l : List Int) (z : Int) : tot (l ++ [z]) = tot l + z := by
  induction l with
  | nil => simp [tot]
  | cons a t ih => simp only [List.cons_append, tot, ih]; omega
theorem tot_take_succ (l : List Int) (k : Nat) (h : k < l.length) : tot (l.take (k + 1)) = tot (l.take k) + l.getD k 0 := by
  rw [take_succ_of_lt h, tot_snoc]
/-- Numbers of 64 bits in memory. -/
def Ints (w : World) (A : Option Addr) (n : Nat) (zs : List Int) : Prop :=
  zs.length = n ∧ (∀ k, -9223372036854775808 ≤ zs.getD k 0 ∧ zs.getD k 0 ≤ 9223372036854775807) ∧
    (0 < n → ∃ b o, A = some ⟨b, o, none⟩ ∧ b < w.heap.size ∧ ∀ i, i < n → w.cell? ⟨b, o + i, none⟩ = some (.int .i64 (zs.getD i 0)))
theorem Ints.below {w w' : World} {A : Option Addr} {n : Nat} {zs : List Int} (h : Ints w A n zs) (hb : Below w.heap.size w w') : Ints w' A n zs := by
  obtain ⟨h1, h2, h3⟩ := h
  refine ⟨h1, h2, fun h0 => ?_⟩
  obtain ⟨b, o, e, hl, hc⟩ := h3 h0
  exact ⟨b, o, e, Nat.lt_of_lt_of_le hl hb.size, fun i hi => (hb.cell (p := ⟨b, o + i, none⟩) hl).trans (hc i hi)⟩
theorem tot_bound {w : World} {A : Option Addr} {n : Nat} {zs : List Int} (h : Ints w A n zs) (_hn : n ≤ 1000) (k : Nat) (hk : k ≤ n) :
    -9223372036854775808 * (k : Int) ≤ tot (zs.take k) ∧ tot (zs.take k) ≤ 9223372036854775807 * (k : Int) := by
  induction k with
  | zero => simp [tot]
  | succ k ih =>
    have h1 := ih (by omega)
    have h2 := h.2.1 k
    rw [tot_take_succ _ _ (by rw [h.1]; omega)]
    push_cast
    omega
end Go.Proofs.Ytjnohdkpkbiclaa
