/-
  Parts in memory; the first loop of OctetWrites: what it keeps. Conditions: none.
-/
import Derived.Test.YtmicmldhjmadcaaOBytc
namespace Go.Proofs.Ytmicmldhjmadcaa.Oc
open Go.RowKit

structure Pt where
  k : Int
  n : Int
  lo : Nat
  s : ByteArray
  m : Int
/-- The part's kind. -/
def Pt.d (p : Pt) : Nat := ((IntKind.u64.wrap p.k).tmod 5).toNat
/-- The part's text, cut at 300 bytes. -/
def Pt.t (p : Pt) : ByteArray := p.s.extract 0 (min p.s.size 300)
def Pt.ok (p : Pt) : Prop := (-9223372036854775808 ≤ p.n ∧ p.n < 9223372036854775808) ∧ p.lo < 18446744073709551616
theorem Pt.d_eq (p : Pt) : (IntKind.u64.wrap p.k).tmod 5 = (p.d : Int) ∧ p.d < 5 := by
  have h0 : 0 ≤ IntKind.u64.wrap p.k := by rw [IntKind.wrap_u64]; omega
  unfold Pt.d
  rw [Int.tmod_eq_emod_of_nonneg h0]
  omega
theorem Pt.t_len (p : Pt) : p.t.size = min p.s.size 300 := by
  unfold Pt.t
  rw [ByteArray.size_extract]
  omega
def Pt.bs (p : Pt) : List Int := pbytes p.d p.n p.lo p.t
def Pt.pk (p : Pt) : Bool := pok p.d p.n
def allB (ps : List Pt) : List Int := ps.flatMap Pt.bs
theorem Pt.bs_len (p : Pt) : p.bs.length ≤ 310 := pbytes_len _ _ _ _ (by rw [p.t_len]; omega)
theorem Pt.bs_pos (p : Pt) : 1 ≤ p.bs.length := by
  unfold Pt.bs pbytes
  split
  · exact (grp_len _).2
  · exact (grp_len _).2
  · rw [List.length_append]; have := (grp_len (fold p.n)).2; omega
  · rw [List.length_append]; have := (grp_len p.t.size).2; omega
  · simp
theorem block_cell5 {w : World} {b : Nat} {x0 x1 x2 x3 x4 : Value} {t : TypeId} (h : w.heap[b]? = some (.cells #[x0, x1, x2, x3, x4] t (0, 0))) : w.cell? ⟨b, 0, none⟩ = some x0 ∧ w.cell? ⟨b, 1, none⟩ = some x1 ∧ w.cell? ⟨b, 2, none⟩ = some x2 ∧ w.cell? ⟨b, 3, none⟩ = some x3 ∧ w.cell? ⟨b, 4, none⟩ = some x4 := by
  refine ⟨?_, ?_, ?_, ?_, ?_⟩ <;> simp [World.cell?, h]
theorem allB_len (ps : List Pt) : (allB ps).length ≤ 310 * ps.length := by
  induction ps with
  | nil => simp [allB]
  | cons p r ih =>
    have h1 := p.bs_len
    have h2 : allB (p :: r) = p.bs ++ allB r := rfl
    rw [h2, List.length_append, List.length_cons]
    omega
theorem Pt.bs_bok (p : Pt) (h : p.ok) : bok p.bs := pbytes_bok _ _ _ _ h.1.1 h.1.2 (by rw [p.t_len]; omega)
theorem allB_bok (ps : List Pt) (h : ∀ p ∈ ps, p.ok) : bok (allB ps) := by
  induction ps with
  | nil => intro x hx; exact absurd hx (List.not_mem_nil)
  | cons p r ih => exact bok_app (p.bs_bok (h p (by simp))) (ih (fun q hq => h q (by simp [hq])))
theorem allB_snoc (ps : List Pt) (p : Pt) : allB (ps ++ [p]) = allB ps ++ p.bs := by simp [allB]
/-- The slice at A holds the parts. -/
def PIn (w : World) (A : Option Addr) (ps : List Pt) : Prop :=
  (∀ p ∈ ps, p.ok) ∧ (0 < ps.length → ∃ g o, A = some ⟨g, o, none⟩ ∧ g < w.heap.size ∧ ∀ i p, ps[i]? = some p →
    (w.cell? ⟨g, o + i * 5, none⟩ = some (.int .i64 p.k) ∧ w.cell? ⟨g, o + i * 5 + 1, none⟩ = some (.int .i64 p.n)) ∧ w.cell? ⟨g, o + i * 5 + 2, none⟩ = some (.int .u64 (p.lo : Int)) ∧ w.cell? ⟨g, o + i * 5 + 3, none⟩ = some (.string p.s) ∧ w.cell? ⟨g, o + i * 5 + 4, none⟩ = some (.int .i64 p.m))
/-- The first loop's state behind i parts. -/
def LpI (w : World) (ps : List Pt) (i : Nat) (right : Bool) (v : Value) (wx : World) : Prop :=
  ∃ er l vw, WrR wx w.heap.size er l vw ∧ wx.ownsRow (w.heap.size + 1) 5 1 v (allB (ps.take i)).length (bv (allB (ps.take i))) ∧ (∀ g, vw.ownBlock = some g → v.ownBlock ≠ some g) ∧
    right = (ps.take i).all Pt.pk ∧ (right = true → er = 0 ∧ l = allB (ps.take i)) ∧ (right = false → er = 1 ∧ l = []) ∧ Below w.heap.size w wx
theorem slice_str (s : ByteArray) (n : Nat) (h : n ≤ s.size) (w : World) : (Instr.slice 9 (.string s) none (some (.int .i64 (n : Int))) none).run Try.prog w = .ok (.string (s.extract 0 n)) w := by
  have h2 : (n : Int) ≤ (s.size : Int) := by omega
  simp [Instr.slice, Instr.sliceBounds, Instr.sliceBound, asIntOf, run_underlying Try.underlying9, h]
/-- The state behind one part more: the writer wrote it, its bytes were made, and put behind. -/
theorem LpI.step {w wx : World} {ps : List Pt} {i : Nat} {p : Pt} {right : Bool} {v : Value} (hp : ps[i]? = some p) (h : LpI w ps i right v wx) (hi : i ≤ 40) :
    ∃ er l vw, WrR wx w.heap.size er l vw ∧ (er = 0 → l.length + 310 ≤ 1048576) ∧ wx.ownsRow (w.heap.size + 1) 5 1 v (allB (ps.take i)).length (bv (allB (ps.take i))) ∧ (allB (ps.take i)).length ≤ 12400 ∧
      ∀ w1 w2 w3, Below wx.heap.size wx w1 → WrTo w.heap.size vw w1 (partE er p.d p.n) (partL er l p.d p.n p.lo p.t) w2 → ∀ vb, Below w2.heap.size w2 w3 → w3.ownsRow w2.heap.size 5 1 vb p.bs.length (bv p.bs) →
        w3.ownsRow (w.heap.size + 1) 5 1 v (allB (ps.take i)).length (bv (allB (ps.take i))) ∧ w.heap.size + 1 ≤ w3.heap.size ∧
        ∀ g cap w4, w4.ownsRow (w.heap.size + 1) 5 1 (.slice (some ⟨g, 0, none⟩) ((allB (ps.take i)).length + p.bs.length) cap) ((allB (ps.take i)).length + p.bs.length) (bv (allB (ps.take i)) ++ bv p.bs) → w3.grownBy w4 v.ownBlock → (v.ownBlock = some g ∨ g = w3.heap.size) →
          LpI w ps (i + 1) (right && p.pk) (.slice (some ⟨g, 0, none⟩) ((allB (ps.take i)).length + p.bs.length) cap) w4 := by
  obtain ⟨er, l, vw, hW, hO, hA, hr, ht, hf, hB⟩ := h
  have hlen := allB_len (ps.take i)
  have hti : (ps.take i).length ≤ 40 := by rw [List.length_take]; omega
  refine ⟨er, l, vw, hW, fun he => ?_, hO, by omega, fun w1 w2 w3 hb0 hwr vb hb3 hvb => ?_⟩
  · cases right with
    | true => rw [(ht rfl).2]; omega
    | false => have := (hf rfl).1; omega
  obtain ⟨vw2, hW2, hF2⟩ := hwr
  have hzx := hW.lt
  have hOb : ∀ g, v.ownBlock = some g → g ≠ w.heap.size ∧ g < wx.heap.size := fun g hg => by have := hO.lt g hg; omega
  have hO1 : w1.ownsRow (w.heap.size + 1) 5 1 v (allB (ps.take i)).length (bv (allB (ps.take i))) := ownsRow_below hO hb0
  have hO2 : w2.ownsRow (w.heap.size + 1) 5 1 v (allB (ps.take i)).length (bv (allB (ps.take i))) := ownsRow_kept hO1 (fun g hg => hF2.block g (hO1.lt g hg).2 (hOb g hg).1 (fun e => hA g e hg))
  have hO3 := ownsRow_below hO2 hb3
  have hz1 := hb0.size
  have hz2 := hF2.size
  have hz3 := hb3.size
  have hW1 := hW.below hb0
  have hB2 : Below w.heap.size w w2 := (hB.trans (hb0.mono hB.size)).trans (hF2.below hW1 (Nat.le_refl _))
  have hB3 : Below w.heap.size w w3 := hB2.trans (hb3.mono hB2.size)
  refine ⟨hO3, by omega, fun g cap w4 hO4 hg4 hat => ?_⟩
  have hW3 := hW2.below hb3
  have htk : ps.take (i + 1) = ps.take i ++ [p] := by
    rw [List.take_add_one, hp]; rfl
  have hne : ∀ g2, vw2.ownBlock = some g2 → v.ownBlock ≠ some g2 := fun g2 h2 h3 => by
    rcases hF2.own g2 h2 with h4 | h4
    · exact hA g2 h4 h3
    · have := (hOb g2 h3).2; omega
  have hW4 : WrR w4 w.heap.size (partE er p.d p.n) (partL er l p.d p.n p.lo p.t) vw2 :=
    ⟨(hg4.block _ hW3.lt (fun e => (hOb _ e.symm).1 rfl)).trans hW3.1, ownsRow_kept hW3.2.1 (fun g2 h2 => hg4.block g2 (hW3.2.1.lt g2 h2).2 (fun e => hne g2 h2 e.symm)), hW3.2.2⟩
  have hall : (ps.take (i + 1)).all Pt.pk = ((ps.take i).all Pt.pk && p.pk) := by rw [htk]; simp
  refine ⟨_, _, vw2, hW4, by rw [htk, allB_snoc, List.length_append, bv_app]; exact hO4, fun g2 h2 h3 => ?_, by rw [hall, hr], fun h5 => ?_, fun h5 => ?_, hB3.grown hg4 (by omega) (fun j hj => by have := (hOb j hj).1; have := (hO.lt j hj).1; omega)⟩
  · have hgg : g = g2 := by simpa [Value.ownBlock] using h3
    subst hgg
    rcases hat with h6 | h6
    · exact hne g h2 h6
    · have := (hW3.2.1.lt g h2).2; omega
  · have h6 : right = true ∧ p.pk = true := by simpa using h5
    obtain ⟨h7, h8⟩ := ht h6.1
    unfold partE partL
    rw [show pok p.d p.n = true from h6.2, if_pos rfl, if_pos rfl, h7, addB_no, h8, htk, allB_snoc]
    exact ⟨rfl, rfl⟩
  · unfold partE partL
    cases hr2 : right with
    | false =>
      obtain ⟨h7, h8⟩ := hf hr2
      rw [h7, h8]
      cases hpk : pok p.d p.n with
      | true => exact ⟨rfl, rfl⟩
      | false => exact ⟨rfl, rfl⟩
    | true =>
      have h6 : p.pk = false := by rw [hr2] at h5; simpa using h5
      obtain ⟨h7, h8⟩ := ht hr2
      rw [show pok p.d p.n = false from h6, h7]
      exact ⟨rfl, rfl⟩
theorem allB_drop {ps : List Pt} {j : Nat} {p : Pt} (hp : ps[j]? = some p) : allB (ps.drop j) = p.bs ++ allB (ps.drop (j + 1)) := by
  obtain ⟨hlt, he⟩ := List.getElem?_eq_some_iff.1 hp
  rw [List.drop_eq_getElem_cons hlt, he]
  rfl
/-- A part in a block of its own, as the second loop reads it. -/
theorem part_cells (w : World) (k n lo : Int) (t : ByteArray) (m : Int) : (w.alloc (partO k n lo t m)).cell? ⟨w.heap.size, 1, none⟩ = some (.int .i64 n) ∧ (w.alloc (partO k n lo t m)).cell? ⟨w.heap.size, 2, none⟩ = some (.int .u64 lo) ∧ (w.alloc (partO k n lo t m)).cell? ⟨w.heap.size, 3, none⟩ = some (.string t) :=
  have h := block_cell5 (block_new w (partO k n lo t m))
  ⟨h.2.1, h.2.2.1, h.2.2.2.1⟩
/-- Each kind is read as it was written. -/
theorem read0 (W : World) (br : Nat) (v : Value) (p : Pt) (r : List Int) (hd : p.d = 0) (hk : p.pk = true) (hn : p.n < 9223372036854775808) (h : RdR W br 0 (p.bs ++ r) v) : Calls Try.prog 13 #[.pointer (some ⟨br, 0, none⟩), .int .i64 9223372036854775807] W fun e w' => e = .returned (.int .i64 p.n) ∧ RdTo br W 0 r w' := by
  have hn0 : 0 ≤ p.n := by unfold Pt.pk pok at hk; rw [hd] at hk; simpa using hk
  have hb : p.bs = grp p.n.toNat := by
    unfold Pt.bs; rw [hd]; show grp _ = _
    rw [show IntKind.u64.wrap p.n = p.n by rw [IntKind.wrap_u64]; omega]
  rw [hb] at h
  have h1 := rcount_ok W br p.n.toNat 9223372036854775807 _ r v h (rg_grp _ _ (by omega)) (by omega) (by decide)
  rw [Int.toNat_of_nonneg hn0] at h1
  exact h1
theorem read1 (W : World) (br : Nat) (v : Value) (p : Pt) (r : List Int) (hd : p.d = 1) (hp : p.ok) (h : RdR W br 0 (p.bs ++ r) v) : Calls Try.prog 14 #[.pointer (some ⟨br, 0, none⟩)] W fun e w' => e = .returned (.int .i64 p.n) ∧ RdTo br W 0 r w' := by
  have hb : p.bs = grp (fold p.n) := by unfold Pt.bs; rw [hd]; rfl
  rw [hb] at h
  have h1 := rnumber_ok W br (fold p.n) _ r v h (rg_grp _ _ (fold_lt hp.1.1 hp.1.2))
  rw [unf_fold] at h1
  exact h1
theorem read2 (W : World) (br : Nat) (v : Value) (p : Pt) (r : List Int) (hd : p.d = 2) (hp : p.ok) (h : RdR W br 0 (p.bs ++ r) v) : Calls Try.prog 15 #[.pointer (some ⟨br, 0, none⟩)] W fun e w' => e = .returned (.agg #[.int .i64 p.n, .int .u64 (p.lo : Int)]) ∧ RdTo br W 0 r w' := by
  have hb : p.bs = grp (fold p.n) ++ wordF 8 p.lo := by unfold Pt.bs; rw [hd]; rfl
  rw [hb, List.append_assoc] at h
  have h1 := rwide_ok W br (fold p.n) _ (wordF 8 p.lo ++ r) v h (rg_grp _ _ (fold_lt hp.1.1 hp.1.2)) (by rw [List.length_append, wordF_len]; omega)
  have e8 : (256 : Nat) ^ 8 = 18446744073709551616 := by decide
  have h8 : (wordF 8 p.lo).length = 8 := wordF_len 8 p.lo
  have ht : (wordF 8 p.lo ++ r).take 8 = wordF 8 p.lo := by rw [List.take_append_of_le_length (by omega), List.take_of_length_le (by omega)]
  have hdr : (wordF 8 p.lo ++ r).drop 8 = r := by rw [List.drop_append_of_le_length (by omega), List.drop_of_length_le (by omega)]; rfl
  rw [unf_fold, ht, hdr, valN_word, e8, Nat.mod_eq_of_lt hp.2] at h1
  exact h1
theorem read3 (W : World) (br : Nat) (v : Value) (p : Pt) (r : List Int) (hd : p.d = 3) (h : RdR W br 0 (p.bs ++ r) v) : Calls Try.prog 16 #[.pointer (some ⟨br, 0, none⟩), .int .i64 300] W fun e w' => e = .returned (.string p.t) ∧ RdTo br W 0 r w' := by
  have hb : p.bs = grp p.t.size ++ sb p.t := by unfold Pt.bs; rw [hd]; rfl
  have hl := p.t_len
  have hs := sb_len p.t
  rw [hb, List.append_assoc] at h
  have h1 := rtext_ok W br p.t.size 300 _ (sb p.t ++ r) v h (rg_grp _ _ (by omega)) (by omega) (by decide) (by rw [List.length_append]; omega)
  have ht : (sb p.t ++ r).take p.t.size = sb p.t := by rw [List.take_append_of_le_length (by omega), List.take_of_length_le (by omega)]
  have hdr : (sb p.t ++ r).drop p.t.size = r := by rw [← hs, List.drop_left]
  rw [ht, hdr, strOf_sb] at h1
  exact h1
theorem read4 (W : World) (br : Nat) (v : Value) (p : Pt) (r : List Int) (hd : p.d = 4) (h : RdR W br 0 (p.bs ++ r) v) : Calls Try.prog 17 #[.pointer (some ⟨br, 0, none⟩)] W fun e w' => e = .returned (.int .u8 ((p.lo % 256 : Nat) : Int)) ∧ RdTo br W 0 r w' := by
  have hb : p.bs = [((p.lo % 256 : Nat) : Int)] := by unfold Pt.bs; rw [hd]; rfl
  rw [hb] at h
  exact rbyte_some W br _ r v h
end Go.Proofs.Ytmicmldhjmadcaa.Oc
