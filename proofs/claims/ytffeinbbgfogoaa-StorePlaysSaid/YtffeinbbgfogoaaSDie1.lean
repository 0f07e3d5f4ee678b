/-
  StoreDies' steps over letters; three copies of one store. Conditions: at most a hundred bytes each.
-/
import Derived.Test.YtffeinbbgfogoaaSDie0
namespace Go.Proofs.Ytffeinbbgfogoaa.Sr
open Go.RowKit Fr

theorem d_app2 {w : World} {p : Nat} {mb : Option Nat} {v : Value} {lo lb : List Int} {A : Option Addr} {m c u nn : Nat} {f : Int} {q : Bool} (hnn : nn = min u m) (hf : f = if nn = m then 0 else 14) (hq : q = decide (nn = m)) (h : StR w p (arS u lo.length) mb [(({ data := #[102] } : ByteArray), v, lo)]) (hlo : lo.length ≤ 100) (hm : m ≤ 100) (hlb : lb.length = m)
    (hv : ∀ w', Off (own p mb [(({ data := #[102] } : ByteArray), v, lo)]) w w' → BAt w' (.slice A m c) lb) :
    Calls Try.prog 11 #[.pointer (some ⟨p, 0, none⟩), .string ({ data := #[102] } : ByteArray), .slice A m c] w fun e w' => e = .returned (.int .i64 f) ∧
      ∃ s' mb' v', s'.d = !q ∧ Mv w w' p mb [(({ data := #[102] } : ByteArray), v, lo)] s' mb' [(({ data := #[102] } : ByteArray), v', lo ++ lb.take nn)] := by
  subst hnn hf hq
  refine (d_app w p mb v lo lb A m c u h hlo hm hlb hv).mono ?_
  rintro e w' ⟨rfl, s', mb', v', hd, hmv⟩
  exact ⟨rfl, s', mb', v', by rw [hd]; simp, hmv⟩
theorem d_wri2 {w : World} {p : Nat} {mb : Option Nat} {v : Value} {lo lb : List Int} {A : Option Addr} {m c u nn : Nat} {f : Int} (hnn : nn = min (u - 1) m) (hf : f = if nn = m then 0 else 14) (h : StR w p (arS u lo.length) mb [(({ data := #[102] } : ByteArray), v, lo)]) (hlo : lo.length ≤ 100) (hm : m ≤ 100) (hlb : lb.length = m) (hu : 0 < u)
    (hv : ∀ w', Off (own p mb [(({ data := #[102] } : ByteArray), v, lo)]) w w' → BAt w' (.slice A m c) lb) :
    Calls Try.prog 13 #[.pointer (some ⟨p, 0, none⟩), .string ({ data := #[102] } : ByteArray), .slice A m c] w fun e w' => e = .returned (.int .i64 f) ∧
      ∃ s' mb' v', Mv w w' p mb [(({ data := #[102] } : ByteArray), v, lo)] s' mb' [(({ data := #[102] } : ByteArray), v', lb.take nn)] := by
  subst hnn hf
  exact d_wri w p mb v lo lb A m c u h hlo hm hlb hu hv
theorem d_ren2 {w : World} {p : Nat} {mb : Option Nat} {v : Value} {lo : List Int} {u r : Nat} {q : Bool} {f : Int} (hr : r = u % 2) (hq : q = decide (u % 2 = 1)) (hf : f = if q = true then 0 else 14) (h : StR w p (arS r lo.length) mb [(({ data := #[102] } : ByteArray), v, lo)]) :
    Calls Try.prog 17 #[.pointer (some ⟨p, 0, none⟩), .string ({ data := #[102] } : ByteArray), .string ({ data := #[103] } : ByteArray)] w fun e w' => e = .returned (.int .i64 f) ∧
      ∃ s' mb' L', Mv w w' p mb [(({ data := #[102] } : ByteArray), v, lo)] s' mb' L' ∧ hasL L' ({ data := #[102] } : ByteArray) = !q ∧ hasL L' ({ data := #[103] } : ByteArray) = q ∧ (q = true → bytL L' ({ data := #[103] } : ByteArray) = lo) := by
  subst hr hf
  exact d_ren w p mb v lo u h q hq
theorem arm_eq (m u : Nat) : armS ⟨false, 0, false, 1000, (m : Int)⟩ (u : Int) = arS u m := by
  unfold armS arS
  simp
theorem d_arm {w : World} {p : Nat} {mb : Option Nat} {v : Value} {lo : List Int} {s0 : S} {m u : Nat} (h : StR w p s0 mb [(({ data := #[102] } : ByteArray), v, lo)]) (hs : s0 = ⟨false, 0, false, 1000, (m : Int)⟩) (hlo : lo.length = m) (hu : (u : Int) ≤ 200) :
    Calls Try.prog 21 #[.pointer (some ⟨p, 0, none⟩), .int .i64 (u : Int)] w fun e w' => e = .returned (.tuple #[]) ∧ Mv w w' p mb [(({ data := #[102] } : ByteArray), v, lo)] (arS u lo.length) mb [(({ data := #[102] } : ByteArray), v, lo)] := by
  refine (Arm_any w p s0 mb _ (u : Int) h (by omega)).mono ?_
  rintro e w' ⟨rfl, hmv⟩
  subst hs
  rw [arm_eq, ← hlo] at hmv
  exact ⟨rfl, hmv⟩
theorem read_one {w : World} {p : Nat} {s : S} {mb : Option Nat} {k : ByteArray} {v : Value} {l : List Int} {n : Nat} (hn : l.length = n) (h : StR w p s mb [(k, v, l)]) :
    Calls Try.prog 24 #[.pointer (some ⟨p, 0, none⟩), .string k] w fun e w' => ∃ A c, e = .returned (.tuple #[.slice A n c, .bool true]) ∧ BAt w' (.slice A n c) l ∧ Below w.heap.size w w' := by
  refine (read_any w p s mb _ k h).mono ?_
  rintro e w' ⟨A, m, c, rfl, hm, ho, hb⟩
  rw [byt_one] at hm ho
  rw [has_one]
  have hmn : m = n := hm.trans hn
  subst hmn
  exact ⟨A, c, rfl, BAt.of_own ho, hb⟩
theorem read_two {w : World} {p : Nat} {s : S} {mb : Option Nat} {L : List Fi} {k : ByteArray} {q : Bool} (hq : hasL L k = q) (h : StR w p s mb L) :
    Calls Try.prog 24 #[.pointer (some ⟨p, 0, none⟩), .string k] w fun e w' => ∃ A n c, e = .returned (.tuple #[.slice A n c, .bool q]) ∧ BAt w' (.slice A n c) (bytL L k) ∧ n = (bytL L k).length ∧ Below w.heap.size w w' := by
  subst hq
  refine (read_any w p s mb _ k h).mono ?_
  rintro e w' ⟨A, m, c, rfl, hm, ho, hb⟩
  exact ⟨A, m, c, rfl, BAt.of_own ho, hm, hb⟩

def Copied (w w' : World) (s : S) (L : List Fi) (mb' : Option Nat) (L' : List Fi) : Prop := StR w' w.heap.size s mb' L' ∧ Below w.heap.size w w' ∧ (∀ i, own w.heap.size mb' L' i → w.heap.size ≤ i) ∧ Alike L L'
theorem three {w w2 w3 w4 w5 : World} {s0 : S} {mb3 mb4 mb5 : Option Nat} {L3 L4 L5 : List Fi} {k : ByteArray} {v : Value} {lo : List Int} (hb : Below w.heap.size w w2) (h3 : Copied w2 w3 s0 [(k, v, lo)] mb3 L3) (h4 : Copied w3 w4 s0 [(k, v, lo)] mb4 L4) (h5 : Copied w4 w5 s0 [(k, v, lo)] mb5 L5) :
    ∃ v3 v4 v5, L3 = [(k, v3, lo)] ∧ L4 = [(k, v4, lo)] ∧ L5 = [(k, v5, lo)] ∧ StR w5 w2.heap.size s0 mb3 L3 ∧ StR w5 w3.heap.size s0 mb4 L4 ∧ StR w5 w4.heap.size s0 mb5 L5 ∧ Below w.heap.size w w5 ∧
      (∀ i, own w2.heap.size mb3 L3 i → w.heap.size ≤ i ∧ ¬ own w3.heap.size mb4 L4 i ∧ ¬ own w4.heap.size mb5 L5 i) ∧ (∀ i, own w3.heap.size mb4 L4 i → w.heap.size ≤ i ∧ ¬ own w4.heap.size mb5 L5 i) ∧ ∀ i, own w4.heap.size mb5 L5 i → w.heap.size ≤ i := by
  obtain ⟨a1, a2, a3, a4⟩ := h3
  obtain ⟨b1, b2, b3, b4⟩ := h4
  obtain ⟨c1, c2, c3, c4⟩ := h5
  obtain ⟨v3, e3⟩ := alike_one a1.keys a4
  obtain ⟨v4, e4⟩ := alike_one b1.keys b4
  obtain ⟨v5, e5⟩ := alike_one c1.keys c4
  have s2 := hb.size
  have s3 := a2.size
  have s4 := b2.size
  refine ⟨v3, v4, v5, e3, e4, e5, (a1.below b2).below c2, b1.below c2, c1, (hb.trans (a2.mono s2)).trans ((b2.mono (by omega)).trans (c2.mono (by omega))), fun i hi => ⟨?_, fun h => ?_, fun h => ?_⟩, fun i hi => ⟨?_, fun h => ?_⟩, fun i hi => ?_⟩
  · have := a3 i hi; omega
  · have := own_lt a1 hi; have := b3 i h; omega
  · have := own_lt a1 hi; have := c3 i h; omega
  · have := b3 i hi; omega
  · have := own_lt b1 hi; have := c3 i h; omega
  · have := c3 i hi; omega
end Go.Proofs.Ytffeinbbgfogoaa.Sr
