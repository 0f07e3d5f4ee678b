/-
  The reference's Same at equal bytes; the law's fixed question answers true. Conditions: at most two million bytes.
-/
import Derived.Test.YtganokcmcdkdgaaGreatPZ8
import Derived.Lib.SlBytesConst
namespace Go.Proofs.YtganokcmcdkdgaaGreat.Fr
open Go.RowKit

/-- A slice of slices of bytes. -/
def RIn (w : World) (A : Option Addr) (n c : Nat) : Prop := ∃ ls : List (List Int), PAt w (.slice A n c) ls ∧ ∀ l ∈ ls, bok l
theorem PAt.two {w : World} {u u' : Value} {l l' : List Int} (h : BAt w u l) (h' : BAt w u' l') : PAt (w.alloc (.cells #[u, u'] 22)) (.slice (some ⟨w.heap.size, 0, none⟩) 2 2) [l, l'] := by
  refine ⟨_, 2, rfl, Nat.le_refl _, fun _ => ⟨w.heap.size, 0, rfl, by simp, fun i hi => ?_⟩⟩
  have hb := block_new w (.cells #[u, u'] 22)
  have hk : Below w.heap.size w (w.alloc (.cells #[u, u'] 22)) := (Below.refl _ w).alloc (Nat.le_refl _) _
  have h2 : i = 0 ∨ i = 1 := by simp at hi; omega
  rcases h2 with rfl | rfl
  · exact ⟨u, by simp only [World.cell?, Nat.zero_add]; rw [hb]; rfl, h.kept hk⟩
  · exact ⟨u', by simp only [World.cell?, Nat.zero_add]; rw [hb]; rfl, h'.kept hk⟩
theorem crc_0 : crc [0, 0, 0, 0] = 558161692 := by decide +kernel
theorem crc_19 : crc [49, 50, 51, 52, 53, 54, 55, 56, 57] = 3421780262 := by decide +kernel
theorem fr_nil : frF [] = [0, 0, 0, 0, 33, 68, 223, 28] := by
  have h1 : hd [] = [0, 0, 0, 0] := by decide
  unfold frF
  rw [h1, crc_0]
  decide
theorem digits_bok : bok [49, 50, 51, 52] ∧ bok [53, 54, 55, 56, 57] := ⟨fun x hx => by simp at hx; omega, fun x hx => by simp at hx; omega⟩
theorem ksum (w1 : World) : Calls Tryz.prog 49 #[.slice (some ⟨w1.heap.size + 1 + 1, 0, none⟩) 2 2] (((w1.alloc (.cells #[.int .u8 49, .int .u8 50, .int .u8 51, .int .u8 52] 5 (4, 5))).alloc (.cells #[.int .u8 53, .int .u8 54, .int .u8 55, .int .u8 56, .int .u8 57] 5 (5, 6))).alloc (.cells #[.slice (some ⟨w1.heap.size, 0, none⟩) 4 4, .slice (some ⟨w1.heap.size + 1, 0, none⟩) 5 5] 22)) fun e w' =>
    e = .returned (.int .u32 3421780262) ∧ (((w1.alloc (.cells #[.int .u8 49, .int .u8 50, .int .u8 51, .int .u8 52] 5 (4, 5))).alloc (.cells #[.int .u8 53, .int .u8 54, .int .u8 55, .int .u8 56, .int .u8 57] 5 (5, 6))).alloc (.cells #[.slice (some ⟨w1.heap.size, 0, none⟩) 4 4, .slice (some ⟨w1.heap.size + 1, 0, none⟩) 5 5] 22)) = w' := by
  have h1 := (lit_at w1 [49, 50, 51, 52] (4, 5)).kept ((Below.refl _ _).alloc (Nat.le_refl _) (.cells #[.int .u8 53, .int .u8 54, .int .u8 55, .int .u8 56, .int .u8 57] 5 (5, 6)))
  have h2 := lit_at (w1.alloc (.cells #[.int .u8 49, .int .u8 50, .int .u8 51, .int .u8 52] 5 (4, 5))) [53, 54, 55, 56, 57] (5, 6)
  have h3 := sum_any _ _ _ (PAt.two h1 h2) ⟨by simp, fun l hl => by
    simp only [List.mem_cons, List.not_mem_nil, or_false] at hl
    rcases hl with rfl | rfl
    · exact ⟨digits_bok.1, by decide⟩
    · exact ⟨digits_bok.2, by decide⟩⟩
  have h4 : crc [[49, 50, 51, 52], [53, 54, 55, 56, 57]].flatten = 3421780262 := crc_19
  rw [h4] at h3
  simpa [bv] using h3
theorem kbytes (w1 : World) : BAt ((((w1.alloc (.cells #[.int .u8 49, .int .u8 50, .int .u8 51, .int .u8 52] 5 (4, 5))).alloc (.cells #[.int .u8 53, .int .u8 54, .int .u8 55, .int .u8 56, .int .u8 57] 5 (5, 6))).alloc (.cells #[.slice (some ⟨w1.heap.size, 0, none⟩) 4 4, .slice (some ⟨w1.heap.size + 1, 0, none⟩) 5 5] 22)).alloc (.cells #[.int .u8 0, .int .u8 0, .int .u8 0, .int .u8 0, .int .u8 33, .int .u8 68, .int .u8 223, .int .u8 28] 5)) (.slice (some ⟨w1.heap.size + 1 + 1 + 1, 0, none⟩) 8 8) [0, 0, 0, 0, 33, 68, 223, 28] := by
  have h := lit_at (((w1.alloc (.cells #[.int .u8 49, .int .u8 50, .int .u8 51, .int .u8 52] 5 (4, 5))).alloc (.cells #[.int .u8 53, .int .u8 54, .int .u8 55, .int .u8 56, .int .u8 57] 5 (5, 6))).alloc (.cells #[.slice (some ⟨w1.heap.size, 0, none⟩) 4 4, .slice (some ⟨w1.heap.size + 1, 0, none⟩) 5 5] 22)) [0, 0, 0, 0, 33, 68, 223, 28] (0, 0)
  simpa [bv] using h
end Go.Proofs.YtganokcmcdkdgaaGreat.Fr

namespace Go.Proofs.YtganokcmcdkdgaaGreat.Fr
open Go.RowKit

theorem make_at (w : World) (A : Option Addr) (m c q : Nat) (l : List Int) (h : BAt w (.slice A m c) l) (hb : bok l) (hm : m ≤ 1048568) (hq : q = m + 8) :
    Calls Tryz.prog 21 #[.slice A m c] w fun e w' => ∃ A' c', e = .returned (.tuple #[.slice A' q c', .int .i64 0]) ∧ BAt w' (.slice A' q c') (frF l) ∧ Below w.heap.size w w' := by
  have hl := h.len.1
  refine (make_any w _ l h hb (by omega)).mono fun e w' ⟨⟨A', c', h1, h2⟩, h3⟩ => ?_
  rw [hl, ← hq] at h1 h2
  exact ⟨A', c', h1, BAt.of_own h2, h3⟩
theorem open_at (w : World) (A : Option Addr) (q c m : Nat) (E : Int) (G B : List Int) (h : BAt w (.slice A q c) G) (hb : bok G) (hq : q ≤ 2000000) (hB : opB G = B) (hm : B.length = m) (hE : opE G = E) :
    Calls Tryz.prog 22 #[.slice A q c] w fun e w' => ∃ A' c', e = .returned (.tuple #[.slice A' m c', .int .i64 E]) ∧ BAt w' (.slice A' m c') B ∧ Below w.heap.size w w' := by
  have hl := h.len.1
  refine (open_any w _ G h hb (by omega)).mono fun e w' ⟨⟨A', c', h1, h2⟩, h3⟩ => ?_
  rw [hB, hE, hm] at h1
  rw [hB, hm] at h2
  exact ⟨A', c', h1, h2, h3⟩
theorem same_at (w : World) (u v : Value) (l : List Int) (hu : BAt w u l) (hv : BAt w v l) (q : Nat) (hl : l.length = q) (hn : q ≤ 2000000) :
    Calls Tryz.prog 12 #[u, v] w fun e w' => e = .returned (.bool true) ∧ Below w.heap.size w w' := same_eq w u v l hu hv (by omega)
/-- What is read of L, told by letters. -/
structure NxR (L B : List Int) (k N : Nat) (E : Int) : Prop where
  b : nxB L = B
  k : B.length = k
  n : nxN L = N
  e : nxE L = E
theorem NxR.fst {L B : List Int} {k N : Nat} {E : Int} (h : NxR L B k N E) {e : Ending} {w' : World} (hf : Fst L e w') : ∃ A c, e = .returned (.tuple #[.slice A k c, .int .i64 (N : Int), .int .i64 E]) ∧ BAt w' (.slice A k c) B := by
  obtain ⟨A, c, h1, h2⟩ := hf
  rw [h.b, h.k, h.n, h.e] at h1
  rw [h.b, h.k] at h2
  exact ⟨A, c, h1, h2⟩
theorem nx_some (L : List Int) : ∃ B k N E, NxR L B k N E := ⟨_, _, _, _, rfl, rfl, rfl, rfl⟩
theorem next_at (w : World) (v : Value) (L B : List Int) (k N : Nat) (E : Int) (h : BAt w v L) (hb : bok L) (hn : L.length ≤ 2000000) (hr : NxR L B k N E) :
    Calls Tryz.prog 50 #[v] w fun e w' => ∃ A c, e = .returned (.tuple #[.slice A k c, .int .i64 (N : Int), .int .i64 E]) ∧ BAt w' (.slice A k c) B ∧ Below w.heap.size w w' :=
  (next_any w v L h hb hn).mono fun e w' ⟨h1, h2⟩ => by
    obtain ⟨A, c, h3, h4⟩ := hr.fst h1
    exact ⟨A, c, h3, h4, h2⟩
theorem first_at (w : World) (v : Value) (L B : List Int) (k N : Nat) (E : Int) (h : BAt w v L) (hb : bok L) (hn : L.length ≤ 2000000) (hr : NxR L B k N E) :
    Calls Tryz.prog 78 #[v] w fun e w' => ∃ A c, e = .returned (.tuple #[.slice A k c, .int .i64 (N : Int), .int .i64 E]) ∧ BAt w' (.slice A k c) B ∧ Below w.heap.size w w' :=
  (first_any w v L h hb hn).mono fun e w' ⟨h1, h2⟩ => by
    obtain ⟨A, c, h3, h4⟩ := hr.fst h1
    exact ⟨A, c, h3, h4, h2⟩
end Go.Proofs.YtganokcmcdkdgaaGreat.Fr
