/-
  Bytes and texts: what is converted; bytes of one's own that may be written. Conditions: none.
-/
import Derived.Test.YtnekjbdogdghnaaNWay
import Derived.Test.YtnekjbdogdghnaaFKnown
import Derived.Laws.IdiomStrings
import Derived.Lib.BufferRead
import Derived.Lib.ConvBytes
namespace Go.Proofs.Ytnekjbdogdghnaa.Ne
open Go.RowKit Fr

def sb (s : ByteArray) : List Int := s.data.toList.map fun b => (b.toNat : Int)
theorem sb_len (s : ByteArray) : (sb s).length = s.size := by unfold sb; rw [List.length_map]; exact Array.length_toList
def u8s (l : List Int) : List UInt8 := l.map fun x => UInt8.ofNat x.toNat
def strOf (l : List Int) : ByteArray := ⟨(u8s l).toArray⟩
theorem sb_strOf {l : List Int} (h : bok l) : sb (strOf l) = l := by
  unfold sb strOf u8s
  simp only [List.map_map]
  conv => rhs; rw [← List.map_id l]
  refine List.map_congr_left fun x hx => ?_
  have := h x hx
  show ((UInt8.ofNat x.toNat).toNat : Int) = x
  rw [UInt8.toNat_ofNat']
  omega
theorem strOf_len (l : List Int) : (strOf l).size = l.length := by simp [strOf, u8s, ByteArray.size]
theorem sb_bok (s : ByteArray) : bok (sb s) := fun x hx => by
  unfold sb at hx
  obtain ⟨b, _, rfl⟩ := List.mem_map.1 hx
  have := b.toNat_lt
  omega
theorem conv_any {w : World} {u : Value} {l : List Int} (h : BAt w u l) (hb : bok l) : (convert 37 9 u).run Try.prog w = .ok (.string (strOf l)) w := by
  obtain ⟨A, cap, rfl, _, hc⟩ := h
  have hl : (u8s l).length = l.length := by simp [u8s]
  cases A with
  | none =>
    cases l with
    | nil => exact Lib.run_convert_nil_bytes w 37 9 5 cap Try.underlying37 Try.underlying5 Try.underlying9
    | cons x r => obtain ⟨g, o, h1, _⟩ := hc (by simp); cases h1
  | some a =>
    have := run_convert_bytes_back (P := Try.prog) w 37 9 5 a cap (u8s l) Try.underlying37 Try.underlying5 Try.underlying9 (fun j hj => by
      rw [hl] at hj
      obtain ⟨g, o, h1, _, h3⟩ := hc (by omega)
      cases h1
      rw [show (Addr.mk g o none).add j = ⟨g, o + j, none⟩ by unfold Addr.add; split <;> simp_all, h3 j hj]
      have hx : l.getD j 0 = l[j] := by simp [List.getD, List.getElem?_eq_getElem hj]
      have := hb l[j] (List.getElem_mem hj)
      rw [hx]
      simp [u8s]
      omega)
    rw [hl] at this
    exact this
/-- Bytes of one's own, from B on, that may be written. -/
def WB (B : Nat) (W : World) (u : Value) (l : List Int) : Prop :=
  ∃ A c, u = .slice A l.length c ∧ l.length ≤ c ∧ (0 < l.length → ∃ g, A = some ⟨g, 0, none⟩ ∧ B ≤ g ∧ ∃ cs fr, W.heap[g]? = some (.cells cs 5 fr) ∧ l.length ≤ cs.size ∧ (∀ i, i < l.length → cs[i]? = some (.int .u8 (l.getD i 0))) ∧ ∀ i, i < l.length → ¬ (fr.1 ≤ i ∧ i < fr.2))
theorem WB.bat {B : Nat} {W : World} {u : Value} {l : List Int} (h : WB B W u l) : BAt W u l := by
  obtain ⟨A, c, rfl, h0, h⟩ := h
  refine ⟨A, c, rfl, h0, fun hp => ?_⟩
  obtain ⟨g, rfl, h1, cs, fr, h2, h3, h4, h5⟩ := h hp
  exact ⟨g, 0, rfl, (Array.getElem?_eq_some_iff.1 h2).1, fun i hi => by simp [World.cell?, h2, h4 i hi]⟩
theorem WB.keep {B : Nat} {w w' : World} {u : Value} {l : List Int} (h : WB B w u l) (hk : ∀ (k : Nat) (cs : Array Value) (fr : Nat × Nat), w.heap[k]? = some (.cells cs 5 fr) → w'.heap[k]? = w.heap[k]?) : WB B w' u l := by
  obtain ⟨A, c, rfl, h0, h⟩ := h
  refine ⟨A, c, rfl, h0, fun hp => ?_⟩
  obtain ⟨g, rfl, h1, cs, fr, h2, h3⟩ := h hp
  exact ⟨g, rfl, h1, cs, fr, (hk g cs fr h2).trans h2, h3⟩
theorem WB.below {B : Nat} {w w' : World} {u : Value} {l : List Int} (h : WB B w u l) (hb : Below w.heap.size w w') : WB B w' u l := h.keep fun k _ _ hk => hb.block k (Array.getElem?_eq_some_iff.1 hk).1
theorem WB.mono {B B' : Nat} {w : World} {u : Value} {l : List Int} (h : WB B w u l) (hb : B' ≤ B) : WB B' w u l := by
  obtain ⟨A, c, rfl, h0, h⟩ := h
  refine ⟨A, c, rfl, h0, fun hp => ?_⟩
  obtain ⟨g, rfl, h1, h2⟩ := h hp
  exact ⟨g, rfl, by omega, h2⟩
theorem WB.of_own {B : Nat} {W : World} {u : Value} {l : List Int} (h : W.ownsRow B 5 1 u l.length (bv l)) : WB B W u l := by
  rcases h.2 with ⟨h1, h2⟩ | ⟨g, cap, cur, h1, h2, h3, h4, _, h5, h6⟩
  · exact ⟨none, 0, by rw [h1, h2], by omega, fun hp => by omega⟩
  · refine ⟨_, cap, h1, h4, fun _ => ⟨g, rfl, h2, cur, (0, 0), h3, by omega, fun i hi => ?_, fun i _ => by omega⟩⟩
    have := congrArg (fun x => x[i]?) h6
    simp only [Nat.mul_one] at this
    rw [List.getElem?_take_of_lt hi, bv_getD hi] at this
    simpa using this
theorem WB.one {B : Nat} {W : World} {u : Value} {l : List Int} (h : WB B W u l) : u.oneCell' = true := by
  obtain ⟨A, c, rfl, _⟩ := h; rfl
/-- A text's bytes, in a block of their own. -/
theorem str_new (s : ByteArray) : ∃ (cv : World → Nat) (cw : World → World), ∀ W, (convert 9 37 (.string s)).run Try.prog W = .ok (.slice (some ⟨W.heap.size, 0, none⟩) s.size (cv W)) (cw W) ∧ BAt (cw W) (.slice (some ⟨W.heap.size, 0, none⟩) s.size (cv W)) (sb s) ∧ WB W.heap.size (cw W) (.slice (some ⟨W.heap.size, 0, none⟩) s.size (cv W)) (sb s) ∧ Below W.heap.size W (cw W) ∧ (cw W).heap.size = W.heap.size + 1 := by
  refine ⟨fun W => grownCap W s.size 0 5, fun W => Lib.bytesWorld W 5 s, fun W => ?_⟩
  have hW : WB W.heap.size (Lib.bytesWorld W 5 s) (.slice (some ⟨W.heap.size, 0, none⟩) s.size (grownCap W s.size 0 5)) (sb s) := by
    refine ⟨_, _, by rw [sb_len], ?_, fun hp => ⟨_, rfl, Nat.le_refl _, _, _, Lib.bytesWorld_at_new W 5 s, ?_, fun j hj => ?_, fun i hi => ?_⟩⟩
    · rw [sb_len]; exact grownCap_ge W _ _ _
    · rw [sb_len]; simp [Lib.bytesCells]
    · rw [sb_len] at hj
      have := Lib.bytesWorld_cell W 5 s j hj
      simp [World.cell?, Lib.bytesWorld_at_new, -List.getD_eq_getElem?_getD] at this
      rw [this]
      have hj2 : j < s.data.toList.length := by
        have : s.data.toList.length = s.size := Array.length_toList
        omega
      unfold sb
      simp only [List.getD, List.getElem?_map, List.getElem?_eq_getElem hj2, Option.map_some, Option.getD_some]
    · rw [sb_len] at hi
      have : s.data.size = s.size := rfl
      simp [Lib.bytesCells]
      omega
  exact ⟨Lib.run_convert_string_bytes (P := Try.prog) W 9 37 5 s Try.underlying9 Try.underlying37 Try.underlying5, hW.bat, hW, ⟨rfl, rfl, rfl, by rw [Lib.bytesWorld_size]; omega, fun k hk => Lib.bytesWorld_at_old W _ _ k hk⟩, Lib.bytesWorld_size _ _ _⟩
end Go.Proofs.Ytnekjbdogdghnaa.Ne
