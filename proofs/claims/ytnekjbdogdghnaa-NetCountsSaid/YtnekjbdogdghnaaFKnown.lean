/-
  The reference's Same at equal bytes; the law's fixed question answers true. Conditions: at most two million bytes.
-/
import Derived.Test.YtnekjbdogdghnaaFMak2
import Derived.Lib.SlBytesConst
namespace Go.Proofs.Ytnekjbdogdghnaa.Fr
open Go.RowKit

set_option maxRecDepth 100000 in
/-- The reference's Same at equal bytes. -/
theorem same_eq (w : World) (u v : Value) (l : List Int) (hu : BAt w u l) (hv : BAt w v l) (hn : l.length ≤ 2000000) :
    Calls Try.prog 15 #[u, v] w fun e w' => e = .returned (.bool true) ∧ Below w.heap.size w w' := by
  obtain ⟨A, cap, rfl, k1, h1⟩ := hu
  obtain ⟨A', cap', rfl, k2, h2⟩ := hv
  obtain ⟨n, hn2⟩ : ∃ n, n = l.length := ⟨_, rfl⟩
  rw [← hn2] at h1 h2 hn k1 k2 ⊢
  have H1 := Lib.hid h1
  have H2 := Lib.hid h2
  have e0 : (0 : Int) ≤ (n : Int) := by omega
  clear h1 h2 hn2
  go_enter Try.func15, Try.ntmps15
  go_wp2
  go_loopg [5] n (fun (gh : Nat) s5 wx => ∃ i : Nat, gh = n - i ∧ i ≤ n ∧ s5 = .int .i64 (i : Int) ∧ Below w.heap.size w wx)
  case atStart => exact ⟨0, rfl, Nat.zero_le _, rfl, Below.refl _ _⟩
  case round =>
    obtain ⟨i, rfl, hi, rfl, hbel⟩ := hrel
    by_cases hlt : i < n
    · have t1 : (i : Int) < (n : Int) := by omega
      have t2 : (0 : Int) ≤ (i : Int) := by omega
      obtain ⟨g, o, rfl, lg, hc1⟩ := H1.out (by omega)
      obtain ⟨g', o', rfl, lg', hc3⟩ := H2.out (by omega)
      obtain ⟨r, hr⟩ : ∃ r, r = l.getD i 0 := ⟨_, rfl⟩
      have c1 : wr.cell? ⟨g, o + i, none⟩ = some (.int .u8 r) := by rw [hr]; exact (hbel.cell (p := ⟨g, o + i, none⟩) lg).trans (hc1 i hlt)
      have c3 : wr.cell? ⟨g', o' + i, none⟩ = some (.int .u8 r) := by rw [hr]; exact (hbel.cell (p := ⟨g', o' + i, none⟩) lg').trans (hc3 i hlt)
      have HB := Lib.hid hbel
      clear hbel hr hc1 hc3
      go_wp2_with fail
      go_quiet (fail)
      go_wp2
      go_roundg (n - (i + 1))
      case measure => omega
      case rel => exact ⟨i + 1, rfl, hlt, by go_num, ⟨HB.out.os, HB.out.tape, HB.out.output, HB.out.size, HB.out.block⟩⟩
    · have hil : i = n := by omega
      subst hil
      have t1 : decide ((i : Int) < (i : Int)) = false := by simp
      have HB := Lib.hid hbel
      clear hbel
      go_wp2
      go_ret
      exact ⟨rfl, HB.out⟩
/-- A slice of slices of bytes. -/
def RIn (w : World) (A : Option Addr) (n c : Nat) : Prop := ∃ ls : List (List Int), PAt w (.slice A n c) ls ∧ ∀ l ∈ ls, bok l
theorem lit_at (w : World) (l : List Int) (fr : Nat × Nat) : BAt (w.alloc (.cells (bv l).toArray 5 fr)) (.slice (some ⟨w.heap.size, 0, none⟩) l.length l.length) l := by
  refine ⟨_, l.length, rfl, Nat.le_refl _, fun _ => ⟨w.heap.size, 0, rfl, by simp, fun i hi => ?_⟩⟩
  have hb := block_new w (.cells (bv l).toArray 5 fr)
  have := bv_getD hi
  simp only [World.cell?, Nat.zero_add]
  rw [hb]
  simpa using this
theorem PAt.two {w : World} {u u' : Value} {l l' : List Int} (h : BAt w u l) (h' : BAt w u' l') : PAt (w.alloc (.cells #[u, u'] 37)) (.slice (some ⟨w.heap.size, 0, none⟩) 2 2) [l, l'] := by
  refine ⟨_, 2, rfl, Nat.le_refl _, fun _ => ⟨w.heap.size, 0, rfl, by simp, fun i hi => ?_⟩⟩
  have hb := block_new w (.cells #[u, u'] 37)
  have hk : Below w.heap.size w (w.alloc (.cells #[u, u'] 37)) := (Below.refl _ w).alloc (Nat.le_refl _) _
  have h2 : i = 0 ∨ i = 1 := by simp at hi; omega
  rcases h2 with rfl | rfl
  · exact ⟨u, by simp only [World.cell?, Nat.zero_add]; rw [hb]; rfl, h.kept hk⟩
  · exact ⟨u', by simp only [World.cell?, Nat.zero_add]; rw [hb]; rfl, h'.kept hk⟩
theorem crc_0 : crc [0, 0, 0, 0] = 558161692 := by decide +kernel
theorem crc_19 : crc [49, 50, 51, 52, 53, 54, 55, 56, 57] = 3421780262 := by decide +kernel
theorem fr_nil : frF [] = [0, 0, 0, 0, 33, 68, 223, 28] := by
  have h1 : hd [] = [0, 0, 0, 0] := by decide
  unfold frF
  rw [h1, crc_0]
  decide
theorem digits_bok : bok [49, 50, 51, 52] ∧ bok [53, 54, 55, 56, 57] := ⟨fun x hx => by simp at hx; omega, fun x hx => by simp at hx; omega⟩
theorem kbytes (w1 : World) : BAt ((((w1.alloc (.cells #[.int .u8 49, .int .u8 50, .int .u8 51, .int .u8 52] 5 (4, 5))).alloc (.cells #[.int .u8 53, .int .u8 54, .int .u8 55, .int .u8 56, .int .u8 57] 5 (5, 6))).alloc (.cells #[.slice (some ⟨w1.heap.size, 0, none⟩) 4 4, .slice (some ⟨w1.heap.size + 1, 0, none⟩) 5 5] 37)).alloc (.cells #[.int .u8 0, .int .u8 0, .int .u8 0, .int .u8 0, .int .u8 33, .int .u8 68, .int .u8 223, .int .u8 28] 5)) (.slice (some ⟨w1.heap.size + 1 + 1 + 1, 0, none⟩) 8 8) [0, 0, 0, 0, 33, 68, 223, 28] := by
  have h := lit_at (((w1.alloc (.cells #[.int .u8 49, .int .u8 50, .int .u8 51, .int .u8 52] 5 (4, 5))).alloc (.cells #[.int .u8 53, .int .u8 54, .int .u8 55, .int .u8 56, .int .u8 57] 5 (5, 6))).alloc (.cells #[.slice (some ⟨w1.heap.size, 0, none⟩) 4 4, .slice (some ⟨w1.heap.size + 1, 0, none⟩) 5 5] 37)) [0, 0, 0, 0, 33, 68, 223, 28] (0, 0)
  simpa [bv] using h
end Go.Proofs.Ytnekjbdogdghnaa.Fr
