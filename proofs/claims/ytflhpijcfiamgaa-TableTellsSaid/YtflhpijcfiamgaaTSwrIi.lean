/-
  The exchange of two ranges of a row, over the sort's worlds. Conditions: both ranges lie within the row.
-/
import Derived.Test.YtflhpijcfiamgaaTInsIi
import Derived.BigRegion
namespace Go.Proofs.Ytflhpijcfiamgaa.Tb.Ii
open Go.RowKit Go.Sort

/-- n exchanges, from a and from b on. -/
def swR (a b : Nat) : Nat → Array R → Array R
  | 0, d => d
  | n + 1, d => swp (swR a b n d) (a + n) (b + n)
theorem size_swR (a b : Nat) : ∀ n d, (swR a b n d).size = d.size
  | 0, _ => rfl
  | n + 1, d => by rw [swR, size_swp, size_swR a b n d]

set_option maxRecDepth 1000000 in
set_option maxHeartbeats 4000000 in
theorem swapRange_any (w0 w : World) (blk off cap a b n : Nat) (f : Value) (d0 d : Array R) (S : SWK enc 2 w0 blk off d w) (Rw : RowK enc 2 w0 blk off d0) (hs : d.size = d0.size) (hab : a + n ≤ b) (hb : b + n ≤ d.size) (hsz : d.size < 4611686018427387904) :
    Calls Try.prog 97 #[.slice (some ⟨blk, off, none⟩) d.size cap, .int .i64 a, .int .i64 b, .int .i64 n, f] w fun e w' => e = .returned (.tuple #[]) ∧ SWK enc 2 w0 blk off (swR a b n d) w' := by
  have mixed : Try.prog.follows .mixedOrders = true := by kernel_rfl
  have aE := Try.isAgg55
  have zE := Try.sizeOf55
  have S0 := Lib.hid S
  clear S
  go_enter Try.func97, Try.ntmps97
  go_wp2
  go_loopg [10] n (fun (gh : Nat) si wx => ∃ i : Nat, gh = n - i ∧ i ≤ n ∧ si = .int .i64 (i : Int) ∧ Hid (SWK enc 2 w0 blk off (swR a b i d) wx))
  case atStart => exact ⟨0, rfl, Nat.zero_le _, rfl, S0.out⟩
  case round =>
    clear S0
    obtain ⟨i, rfl, hi, rfl, S1⟩ := hrel
    by_cases hlt : i < n
    · obtain ⟨dj, hdj⟩ : ∃ dj, dj = swR a b i d := ⟨_, rfl⟩
      have hjs : dj.size = d.size := by rw [hdj, size_swR]
      have hnx : Hid (swR a b (i + 1) d = swp dj (a + i) (b + i)) := by show _ = _; rw [hdj]; rfl
      rw [← hdj] at S1
      clear hdj
      have t1 : (i : Int) < (n : Int) := by omega
      have pa : (0 : Int) ≤ (a : Int) + (i : Int) := by omega
      have ba : (a : Int) + (i : Int) < (d.size : Int) := by omega
      have ra : IntKind.i64.wrap ((a : Int) + (i : Int)) = (a : Int) + (i : Int) := by rw [IntKind.wrap_i64]; omega
      have ea : ((a : Int) + (i : Int)).toNat = a + i := by omega
      have pb : (0 : Int) ≤ (b : Int) + (i : Int) := by omega
      have bb : (b : Int) + (i : Int) < (d.size : Int) := by omega
      have rb : IntKind.i64.wrap ((b : Int) + (i : Int)) = (b : Int) + (i : Int) := by rw [IntKind.wrap_i64]; omega
      have eb : ((b : Int) + (i : Int)).toNat = b + i := by omega
      have S2 := Lib.hid (S1.out.swapped Rw (a + i) (b + i) (by omega) (by omega))
      have H := S1.out.holds Rw.hblk Rw.hH (by omega)
      obtain ⟨x, hx⟩ : ∃ x, x = dj[a + i]! := ⟨_, rfl⟩
      obtain ⟨y, hy⟩ : ∃ y, y = dj[b + i]! := ⟨_, rfl⟩
      have h1 := H.cell (show a + i < dj.size by omega) (show 0 < 2 by decide)
      have h2 := H.cell (show a + i < dj.size by omega) (show 1 < 2 by decide)
      have h3 := H.cell (show b + i < dj.size by omega) (show 0 < 2 by decide)
      have h4 := H.cell (show b + i < dj.size by omega) (show 1 < 2 by decide)
      rw [← hx] at h1 h2
      rw [← hy] at h3 h4
      rw [← hx, ← hy] at S2
      have c1 : wr.drew.cell? ⟨blk, off + (a + i) * 2, none⟩ = some (ek x.1) := h1.1
      have c2 : wr.drew.cell? ⟨blk, off + (a + i) * 2 + 1, none⟩ = some (ev x.2) := h2.1
      have c3 : wr.drew.cell? ⟨blk, off + (b + i) * 2, none⟩ = some (ek y.1) := h3.1
      have c4 : wr.drew.cell? ⟨blk, off + (b + i) * 2 + 1, none⟩ = some (ev y.2) := h4.1
      have f1 : wr.drew.frozen? ⟨blk, off + (a + i) * 2, none⟩ = false := h1.2
      have f2 : wr.drew.frozen? ⟨blk, off + (a + i) * 2 + 1, none⟩ = false := h2.2
      have f3 : wr.drew.frozen? ⟨blk, off + (b + i) * 2, none⟩ = false := h3.2
      have f4 : wr.drew.frozen? ⟨blk, off + (b + i) * 2 + 1, none⟩ = false := h4.2
      have d1 : wr.cell? ⟨blk, off + (a + i) * 2, none⟩ = some (Value.int .i64 x.1) := h1.1
      have g1 : wr.frozen? ⟨blk, off + (a + i) * 2, none⟩ = false := h1.2
      have d2 : wr.cell? ⟨blk, off + (a + i) * 2 + 1, none⟩ = some (Value.int .i64 x.2) := h2.1
      have g2 : wr.frozen? ⟨blk, off + (a + i) * 2 + 1, none⟩ = false := h2.2
      have d3 : wr.cell? ⟨blk, off + (b + i) * 2, none⟩ = some (Value.int .i64 y.1) := h3.1
      have g3 : wr.frozen? ⟨blk, off + (b + i) * 2, none⟩ = false := h3.2
      have d4 : wr.cell? ⟨blk, off + (b + i) * 2 + 1, none⟩ = some (Value.int .i64 y.2) := h4.1
      have g4 : wr.frozen? ⟨blk, off + (b + i) * 2 + 1, none⟩ = false := h4.2
      clear h1 h2 h3 h4 H hx hy
      have S3 : Hid (SWK enc 2 w0 blk off (swp dj (a + i) (b + i)) ((((wr.drew.setCell ⟨blk, off + (a + i) * 2, none⟩ (ek y.1)).setCell ⟨blk, off + (a + i) * 2 + 1, none⟩ (ev y.2)).setCell ⟨blk, off + (b + i) * 2, none⟩ (ek x.1)).setCell ⟨blk, off + (b + i) * 2 + 1, none⟩ (ev x.2))) := S2.out
      clear S2
      unfold ek at c1 c3 S3
      unfold ev at c2 c4 S3
      have n3 : ¬ a = b := by omega
      have n4 : ¬ b = a := by omega
      have n5 : ¬ off + (a + i) * 2 = off + (b + i) * 2 := by omega
      have n6 : ¬ off + (a + i) * 2 + 1 = off + (b + i) * 2 := by omega
      have n7 : ¬ off + (a + i) * 2 = off + (b + i) * 2 + 1 := by omega
      have n1 : ¬ off + (a + i) * 2 = off + (a + i) * 2 + 1 := by omega
      have n2 : ¬ off + (b + i) * 2 = off + (b + i) * 2 + 1 := by omega
      clear S1 hs hjs
      go_wp2_with fail
      go_region
      rw [← hnx.out] at S3
      clear hnx
      go_wp2
      go_roundg (n - (i + 1))
      case measure => omega
      case rel => exact ⟨i + 1, rfl, by omega, by go_num, S3⟩
    · obtain rfl : i = n := by omega
      have t1 : decide ((i : Int) < (i : Int)) = false := by simp
      go_wp2
      go_end0
      exact ⟨rfl, S1.out⟩
end Go.Proofs.Ytflhpijcfiamgaa.Tb.Ii
