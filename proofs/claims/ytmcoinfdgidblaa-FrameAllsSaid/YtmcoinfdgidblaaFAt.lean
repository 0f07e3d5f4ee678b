/-
  The contracts at slices whose length has a name. Conditions: at most two million bytes.
-/
import Derived.Test.YtmcoinfdgidblaaFKnown
namespace Go.Proofs.Ytmcoinfdgidblaa.Fr
open Go.RowKit

theorem make_at (w : World) (A : Option Addr) (m c q : Nat) (l : List Int) (h : BAt w (.slice A m c) l) (hb : bok l) (hm : m ≤ 1048568) (hq : q = m + 8) :
    Calls Try.prog 8 #[.slice A m c] w fun e w' => ∃ A' c', e = .returned (.tuple #[.slice A' q c', .int .i64 0]) ∧ BAt w' (.slice A' q c') (frF l) ∧ Below w.heap.size w w' := by
  have hl := h.len.1
  refine (make_any w _ l h hb (by omega)).mono fun e w' ⟨⟨A', c', h1, h2⟩, h3⟩ => ?_
  rw [hl, ← hq] at h1 h2
  exact ⟨A', c', h1, BAt.of_own h2, h3⟩
theorem open_at (w : World) (A : Option Addr) (q c m : Nat) (E : Int) (G B : List Int) (h : BAt w (.slice A q c) G) (hb : bok G) (hq : q ≤ 2000000) (hB : opB G = B) (hm : B.length = m) (hE : opE G = E) :
    Calls Try.prog 9 #[.slice A q c] w fun e w' => ∃ A' c', e = .returned (.tuple #[.slice A' m c', .int .i64 E]) ∧ BAt w' (.slice A' m c') B ∧ Below w.heap.size w w' := by
  have hl := h.len.1
  refine (open_any w _ G h hb (by omega)).mono fun e w' ⟨⟨A', c', h1, h2⟩, h3⟩ => ?_
  rw [hB, hE, hm] at h1
  rw [hB, hm] at h2
  exact ⟨A', c', h1, h2, h3⟩
theorem bend_at (w : World) (A : Option Addr) (q c : Nat) (a b : Int) (G G' : List Int) (h : BAt w (.slice A q c) G) (hb : bok G) (hq : q ≤ 2000000) (hx : 0 ≤ b ∧ b < 256) (hG : bend G a b = G') :
    Calls Try.prog 20 #[.slice A q c, .int .i64 a, .int .u8 b] w fun e w' => ∃ A' c', e = .returned (.slice A' q c') ∧ BAt w' (.slice A' q c') G' ∧ Below w.heap.size w w' := by
  have hl := h.len.1
  refine (bend_any w _ G a b h hb (by omega) hx).mono fun e w' ⟨⟨A', c', h1, h2⟩, h3⟩ => ?_
  rw [hl] at h1 h2
  rw [hG] at h2
  exact ⟨A', c', h1, BAt.of_own h2, h3⟩
theorem same_at (w : World) (u v : Value) (l : List Int) (hu : BAt w u l) (hv : BAt w v l) (q : Nat) (hl : l.length = q) (hn : q ≤ 2000000) :
    Calls Try.prog 13 #[u, v] w fun e w' => e = .returned (.bool true) ∧ Below w.heap.size w w' := same_eq w u v l hu hv (by omega)
/-- What is read of L, told by letters. -/
structure NxR (L B : List Int) (k N : Nat) (E : Int) : Prop where
  b : nxB L = B
  k : B.length = k
  n : nxN L = N
  e : nxE L = E
theorem NxR.fst {L B : List Int} {k N : Nat} {E : Int} (h : NxR L B k N E) {e : Ending} {w' : World} (hf : Fst L e w') : ∃ A c, e = .returned (.tuple #[.slice A k c, .int .i64 (N : Int), .int .i64 E]) ∧ BAt w' (.slice A k c) B := by
  obtain ⟨A, c, h1, h2⟩ := hf
  rw [h.b, h.k, h.n, h.e] at h1
  rw [h.b, h.k] at h2
  exact ⟨A, c, h1, h2⟩
theorem nx_some (L : List Int) : ∃ B k N E, NxR L B k N E := ⟨_, _, _, _, rfl, rfl, rfl, rfl⟩
theorem next_at (w : World) (v : Value) (L B : List Int) (k N : Nat) (E : Int) (h : BAt w v L) (hb : bok L) (hn : L.length ≤ 2000000) (hr : NxR L B k N E) :
    Calls Try.prog 15 #[v] w fun e w' => ∃ A c, e = .returned (.tuple #[.slice A k c, .int .i64 (N : Int), .int .i64 E]) ∧ BAt w' (.slice A k c) B ∧ Below w.heap.size w w' :=
  (next_any w v L h hb hn).mono fun e w' ⟨h1, h2⟩ => by
    obtain ⟨A, c, h3, h4⟩ := hr.fst h1
    exact ⟨A, c, h3, h4, h2⟩
theorem first_at (w : World) (v : Value) (L B : List Int) (k N : Nat) (E : Int) (h : BAt w v L) (hb : bok L) (hn : L.length ≤ 2000000) (hr : NxR L B k N E) :
    Calls Try.prog 24 #[v] w fun e w' => ∃ A c, e = .returned (.tuple #[.slice A k c, .int .i64 (N : Int), .int .i64 E]) ∧ BAt w' (.slice A k c) B ∧ Below w.heap.size w w' :=
  (first_any w v L h hb hn).mono fun e w' ⟨h1, h2⟩ => by
    obtain ⟨A, c, h3, h4⟩ := hr.fst h1
    exact ⟨A, c, h3, h4, h2⟩
end Go.Proofs.Ytmcoinfdgidblaa.Fr
