/-
  The reference's In. Conditions: at most sixteen things.
-/
import Derived.Test.YtaidihilhblhgaaWRefO
import Derived.Test.YtaidihilhblhgaaWKept
import Derived.Test.YtaidihilhblhgaaWLOrd
namespace Go.Proofs.Ytaidihilhblhgaa.Wi.I
open Go.RowKit Tb Ii

theorem thInf : (Try.prog.info? 86).map (fun i => (i.zero, i.size, i.bytes)) = some (some (.agg #[.int .i64 0, .int .i64 0]), 2, 16) := by kernel_rfl
/-- The slice value reads as the things. -/
def ThAt (w : World) (v : Value) (l : List Rw) : Prop :=
  ∃ A cap, v = .slice A l.length cap ∧ l.length ≤ cap ∧ (0 < l.length → ∃ g o, A = some ⟨g, o, none⟩ ∧ g < w.heap.size ∧ ∀ i r, l[i]? = some r → w.cell? ⟨g, o + i * 2, none⟩ = some (.int .i64 r.1) ∧ w.cell? ⟨g, o + i * 2 + 1, none⟩ = some (.int .i64 r.2))
abbrev thOf (w : World) (base : Nat) (v : Value) (l : List Rw) : Prop := w.ownsRow base 86 2 v l.length (Ii.cells l)
theorem ThAt.of_own {w : World} {base : Nat} {v : Value} {l : List Rw} (h : thOf w base v l) : ThAt w v l := by
  rcases h.2 with ⟨h1, h2⟩ | ⟨g, cap, cur, h1, _, h3, h4, _, h5, h6⟩
  · exact ⟨none, 0, by rw [h1, h2], by omega, fun h => by omega⟩
  · refine ⟨_, cap, h1, h4, fun _ => ⟨g, 0, rfl, (Array.getElem?_eq_some_iff.1 h3).1, fun i r hi => ?_⟩⟩
    have hlt : i < l.length := (List.getElem?_eq_some_iff.1 hi).1
    have hcg := cells_get l i r hi
    rw [← h6, List.getElem?_take, if_pos (by omega), List.getElem?_take, if_pos (by omega)] at hcg
    rw [Nat.zero_add, cell_of_row _ g (i * 2) _ _ _ h3, cell_of_row _ g (i * 2 + 1) _ _ _ h3]
    simpa [ek, ev] using hcg
theorem ThAt.below {w w' : World} {v : Value} {l : List Rw} (h : ThAt w v l) (hb : Below w.heap.size w w') : ThAt w' v l := by
  obtain ⟨A, cap, e, h1, h3⟩ := h
  refine ⟨A, cap, e, h1, fun hp => ?_⟩
  obtain ⟨g, o, e, hg, hc⟩ := h3 hp
  exact ⟨g, o, e, Nat.lt_of_lt_of_le hg hb.size, fun i r hi => by
    have := hc i r hi
    exact ⟨(hb.cell (p := ⟨g, o + i * 2, none⟩) hg).trans this.1, (hb.cell (p := ⟨g, o + i * 2 + 1, none⟩) hg).trans this.2⟩⟩
theorem th_cells {w : World} {A : Option Addr} {n cap : Nat} {l : List Rw} (h : ThAt w (.slice A n cap) l) {a : Addr} (ha : A = some a) : ∀ j u, (Ii.cells l)[j]? = some u → w.cell? (a.add j) = some u := by
  intro j u hu
  obtain ⟨i, r, hi, hj⟩ := cells_inv l j u hu
  obtain ⟨A', cap', h1, _, h3⟩ := h
  cases h1
  obtain ⟨g, o, h4, h5, h6⟩ := h3 (by have := (List.getElem?_eq_some_iff.1 hi).1; omega)
  rw [ha] at h4
  cases h4
  rw [show (Addr.mk g o none).add j = ⟨g, o + j, none⟩ by unfold Addr.add; split <;> simp_all]
  rcases hj with ⟨rfl, rfl⟩ | ⟨rfl, rfl⟩
  · exact (h6 i r hi).1
  · exact (h6 i r hi).2
/-- Things from anywhere behind a row of the call's own. -/
theorem app_th (w : World) (base : Nat) (v : Value) (l : List Rw) (hown : thOf w base v l) (x : Value) (m : List Rw) (hx : ThAt w x m) (hb : l.length + m.length ≤ 100000) (hbase : base ≤ w.heap.size) :
    ∃ A cap w', (∀ ty, (Builtin.append_ #[52, 52] ty #[v, x]).run Try.prog w = .ok (.slice A (l.length + m.length) cap) w') ∧ thOf w' base (.slice A (l.length + m.length) cap) (l ++ m) ∧ w.grownBy w' v.ownBlock := by
  obtain ⟨i0, hi0, hz0, hz1, hz2⟩ := Wi.info_parts thInf
  obtain ⟨A, cap, rfl, _, hc⟩ := id hx
  cases A with
  | none =>
    have h0 : m = [] := by
      cases m with
      | nil => rfl
      | cons y r => obtain ⟨g, o, h1, _⟩ := hc (by simp); cases h1
    subst h0
    obtain ⟨A1, c1, h1, _⟩ := own_form hown
    refine ⟨A1, c1, w, fun ty => ?_, ?_, ⟨rfl, rfl, rfl, Nat.le_refl _, fun _ _ _ => rfl⟩⟩
    · show _ = Result.ok (Value.slice A1 l.length c1) w
      rw [← h1]
      rcases hown.2 with ⟨h4, _⟩ | ⟨g, cap3, cur, h4, _, _, hnc, _⟩
      · rw [h4]
        simp [Builtin.append_, run_underlying Try.underlying52, sizeOf, typeInfo, hi0, Builtin.lenOf, Builtin.firstCells]
      · rw [h4]
        simp [Builtin.append_, run_underlying Try.underlying52, sizeOf, typeInfo, hi0, Builtin.lenOf, Builtin.firstCells, hnc, storeCells]
    · rw [h1] at hown
      rw [List.append_nil]
      exact hown
  | some a =>
    obtain ⟨v', w', hr, ho, hg, _⟩ := run_append_own (P := Try.prog) w base 52 52 86 i0 (.agg #[.int .i64 0, .int .i64 0]) 2 16 Try.underlying52 hi0 hz0 hz1 hz2 rfl (by decide) v l.length (Ii.cells l) hown a m.length cap (Ii.cells m) (cells_len m) (th_cells hx rfl) (cells_one _) (by unfold maxLen; omega) (by omega) hbase
    rw [← cells_append] at ho
    have ho2 : thOf w' base v' (l ++ m) := by unfold thOf; rw [List.length_append]; exact ho
    obtain ⟨A1, c1, h1, _⟩ := own_form ho2
    rw [List.length_append] at h1
    subst h1
    exact ⟨A1, c1, w', fun ty => hr, ho2, hg⟩

/-- The reference's In. -/
structure RefI (w : World) (b : Nat) (nx : Int) (sv : Value) (l : List Rw) : Prop where
  blk : Two w b 54 (.int .i64 nx) sv
  row : thOf w 0 sv l
section
variable {w w' : World} {b : Nat} {nx : Int} {sv : Value} {l : List Rw}
theorem RefI.lt (h : RefI w b nx sv l) : ∀ i, Own b sv i → i < w.heap.size := fun i hi => hi.elim (fun e => e ▸ h.blk.lt) (fun e => own_lt h.row i e)
theorem RefI.keep {S : Nat → Prop} (h : RefI w b nx sv l) (hk : Kept S w w') (hs : ∀ i, Own b sv i → ¬ S i) : RefI w' b nx sv l :=
  ⟨h.blk.kept hk (hs b (.inl rfl)), own_keep h.row hk (fun i hi => hs i (.inr hi))⟩
theorem RefI.below (h : RefI w b nx sv l) (hb : Below w.heap.size w w') : RefI w' b nx sv l := h.keep (Kept.of_below (S := fun _ => False) hb) (fun _ _ h => h)
theorem RefI.ne (h : RefI w b nx sv l) : sv.ownBlock ≠ some b := h.blk.not_row (by decide) h.row
theorem grown_base {w w1 : World} {n0 base n : Nat} {e : TypeId} {size : Nat} {v : Value} {xs : List Value} (h : w.ownsRow base e size v n xs) (hg : w.grownBy w1 v.ownBlock) (h1 : n0 ≤ base) (h2 : n0 ≤ w.heap.size) : Below n0 w w1 :=
  ⟨hg.os, hg.tape, hg.output, hg.size, fun k hk => hg.block k (by omega) (fun e => by have := (h.lt k e.symm).1; omega)⟩
/-- A new row is set. -/
theorem RefI.set {w3 : World} {v : Value} {l2 : List Rw} (h : RefI w b nx sv l) (hb : Below w.heap.size w w3) (hr : thOf w3 w.heap.size v l2) : RefI (w3.setCell ⟨b, 1, none⟩ v) b nx v l2 ∧ Kept (fun i => i = b) w (w3.setCell ⟨b, 1, none⟩ v) ∧ Nw w sv v := by
  refine ⟨⟨(h.blk.below hb).set1 _, own_keep (own_base hr) (Kept.of_set w3 ⟨b, 1, none⟩ _) (fun i hi e => ?_)⟩, (Kept.of_below hb).trans (Kept.of_set w3 ⟨b, 1, none⟩ _), fun i hi => .inr (hr.lt i hi).1⟩
  have h1 := (hr.lt i hi).1
  have h2 := h.blk.lt
  have h3 : i = b := e
  omega
/-- A row's part. -/
theorem ThAt.part {A : Option Addr} {n cap : Nat} (h : ThAt w (.slice A n cap) l) (i k : Nat) (hi : i + k ≤ l.length) (A' : Option Addr) (hA : ∀ g o, A = some ⟨g, o, none⟩ → 0 < k → A' = some ⟨g, o + i * 2, none⟩) (c : Nat) (hc : k ≤ c) : ThAt w (.slice A' k c) ((l.drop i).take k) := by
  obtain ⟨A1, cap1, h1, h2, h3⟩ := h
  cases h1
  have hl : ((l.drop i).take k).length = k := by rw [List.length_take, List.length_drop]; omega
  refine ⟨A', c, by rw [hl], by rw [hl]; exact hc, fun hp => ?_⟩
  rw [hl] at hp
  obtain ⟨g, o, h4, h5, h6⟩ := h3 (by omega)
  refine ⟨g, o + i * 2, hA g o h4 hp, h5, fun j x hj => ?_⟩
  rw [List.getElem?_take] at hj
  split at hj
  · rw [List.getElem?_drop] at hj
    have := h6 _ x hj
    rw [show o + i * 2 + j * 2 = o + (i + j) * 2 by omega]
    exact this
  · cases hj
/-- What begins at the next number. -/
theorem pl_zero {nx : Int} {l : List Rw} (hr : ∀ r ∈ l, nx ≤ r.1) : pl l nx = 0 := by
  cases l with
  | nil => rfl
  | cons r t =>
    have := hr r (by simp)
    exact pl_cons_not (by rw [ltI]; simp; omega)
set_option maxRecDepth 100000 in
theorem rready_any (h : RefI w b nx sv l) (hr : ∀ r ∈ l, nx ≤ r.1) : Calls Try.prog 24 #[.pointer (some ⟨b, 0, none⟩)] w fun e w' => e = .returned (.tuple #[.int .i64 (rdy nx l), .bool (hasB l nx)]) ∧ Below w.heap.size w w' := by
  have c0 := h.blk.c0
  have c1 := h.blk.c1
  have hat := ThAt.of_own h.row
  obtain ⟨A, c, rfl, _, hc⟩ := hat
  have hp := pl_zero hr
  cases l with
  | nil =>
    have e1 : Hid (rdy nx [] = 0 ∧ hasB ([] : List Rw) nx = false) := ⟨rfl, rfl⟩
    obtain ⟨z1, hz1⟩ : ∃ z, z = rdy nx [] := ⟨_, rfl⟩
    obtain ⟨z2, hz2⟩ : ∃ z, z = hasB ([] : List Rw) nx := ⟨_, rfl⟩
    rw [← hz1, ← hz2] at e1 ⊢
    obtain ⟨rfl, rfl⟩ := e1.out
    clear hz1 hz2 e1 hp hr hc h
    go_enter Try.func24, Try.ntmps24
    go_wp2
    go_quiet (fail)
    go_wp2
    go_ret2
    exact ⟨rfl, below_drewN (Below.refl _ _) _⟩
  | cons r t =>
    obtain ⟨g, o, rfl, hg, hcell⟩ := hc (by simp)
    obtain ⟨k0, k1⟩ := hcell 0 r rfl
    simp only [Nat.zero_mul, Nat.add_zero] at k0 k1
    obtain ⟨n, hn⟩ : ∃ n, n = (r :: t).length := ⟨_, rfl⟩
    have hn0 : 0 < n := by rw [hn]; simp
    rw [← hn] at c1
    have e1 : Hid (hasB (r :: t) nx = decide (r.1 = nx)) := by show _ = _; unfold hasB; rw [hp]; rfl
    by_cases he : r.1 = nx
    · have e2 : Hid (rdy nx (r :: t) = r.2 ∧ hasB (r :: t) nx = true) := ⟨by show getL _ _ = _; unfold getL; rw [hp]; simp [he], by rw [e1.out]; simpa using he⟩
      have e3 : (r.1 == nx) = true := by simpa using he
      rw [e2.out.1, e2.out.2]
      clear hn e1 e2 hp hr hc hcell h he
      obtain ⟨q, hq⟩ : ∃ q, q = r.1 := ⟨_, rfl⟩
      rw [← hq] at k0 e3
      clear hq
      go_enter Try.func24, Try.ntmps24
      go_wp2
      go_quiet (fail)
      go_wp2
      go_ret2
      exact ⟨rfl, below_drewN (Below.refl _ _) _⟩
    · have e2 : Hid (rdy nx (r :: t) = 0 ∧ hasB (r :: t) nx = false) := ⟨by show getL _ _ = _; unfold getL; rw [hp]; simp [he]; rfl, by rw [e1.out]; simpa using he⟩
      have e3 : (r.1 == nx) = false := by simpa using he
      rw [e2.out.1, e2.out.2]
      clear hn e1 e2 hp hr hc hcell h
      obtain ⟨q, hq⟩ : ∃ q, q = r.1 := ⟨_, rfl⟩
      rw [← hq] at k0 e3
      have he' : ¬ q = nx := by rw [hq]; exact he
      clear hq he
      go_enter Try.func24, Try.ntmps24
      go_wp2
      go_quiet (fail)
      go_wp2
      go_ret2
      exact ⟨rfl, below_drewN (Below.refl _ _) _⟩
end
end Go.Proofs.Ytaidihilhblhgaa.Wi.I
