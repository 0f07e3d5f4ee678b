/-
  The contracts of the reference's 'Compare', 'Neg', 'odd'. Conditions: the values read as numbers.
-/
import Derived.Test.YtjnohdkpkbiclaaSize
namespace Go.Proofs.Ytjnohdkpkbiclaa
open Go.RowKit

theorem NumIs.keep {w w' : World} {v : Value} {z : Int} (h : NumIs w v z) (hk : IntKept w w') : NumIs w' v z := by
  obtain ⟨A, n, c, hv, hd⟩ := h
  exact ⟨A, n, c, hv, hd.keep hk⟩
theorem NumIs.below {w w' : World} {v : Value} {z : Int} (h : NumIs w v z) {B : Nat} (hb : Below B w w') (hB : w.heap.size ≤ B) : NumIs w' v z := h.keep (IntKept.of_below hb hB)
theorem NumIs.alloc {w : World} {v : Value} {z : Int} (h : NumIs w v z) (o : Obj) : NumIs (w.alloc o) v z := h.keep ((IntKept.refl w).alloc o)
theorem NumIs.drew {w : World} {v : Value} {z : Int} (h : NumIs w v z) : NumIs w.drew v z := h
theorem NumIs.drewN {w : World} {v : Value} {z : Int} (h : NumIs w v z) (n : Nat) : NumIs (w.drewN n) v z := h
theorem NumIs.zero (w : World) : NumIs w (.agg #[.bool false, .slice none 0 0]) 0 := ⟨_, _, _, rfl, by rw [show (0 : Int).natAbs = 0 from rfl, digs_zero]; exact Digs.nil w⟩

theorem cmpN_bd (m n : Nat) : -1 ≤ cmpN m n ∧ cmpN m n ≤ 1 := by unfold cmpN; split <;> (try split) <;> omega
theorem cmpI_bd (m n : Int) : -1 ≤ cmpI m n ∧ cmpI m n ≤ 1 := by unfold cmpI; split <;> (try split) <;> omega

set_option maxHeartbeats 1000000 in
theorem compare_any (w : World) (u v : Value) (x y : Int) (h : NumIs w u x) (h' : NumIs w v y) :
    Calls Try.prog 24 #[u, v] w fun e w' => e = .returned (.int .i64 (cmpI x y)) ∧ Below w.heap.size w w' := by
  obtain ⟨A, n, c, rfl, hd⟩ := h
  obtain ⟨A', n', c', rfl, hd'⟩ := h'
  have hd1 := Lib.hid hd
  have hd1' := Lib.hid hd'
  clear hd hd'
  by_cases hx : x < 0 <;> by_cases hy : y < 0
  · have e1 : decide (x < 0) = true := by simpa using hx
    have e2 : decide (y < 0) = true := by simpa using hy
    obtain ⟨c, hc⟩ : ∃ c, c = cmpN x.natAbs y.natAbs := ⟨_, rfl⟩
    have hb := cmpN_bd x.natAbs y.natAbs
    rw [← hc] at hb
    obtain ⟨hb1, hb2⟩ := hb
    have HC := Lib.hid hc
    clear hc
    rw [e1, e2]
    clear e1 e2
    have hres : Hid (cmpI x y = -c) := by
      show cmpI x y = -c
      rw [HC.out]; unfold cmpI cmpN; split <;> split <;> (try split) <;> (try split) <;> omega
    clear hx hy
    go_enter Try.func24, Try.ntmps24
    go_wp2_with (go_at_call 40; refine (size_any _ _ _ _ _ ((hd1.out.alloc _).alloc _) ((hd1'.out.alloc _).alloc _)).mono ?_; rw [← HC.out]; rintro e w' ⟨rfl, n, rfl⟩)
    go_ret
    exact ⟨ret_int hres.out.symm, below_drewN (((Below.refl _ _).alloc (Nat.le_refl _) _).alloc (by simp) _) _⟩
  · have e1 : decide (x < 0) = true := by simpa using hx
    have e2 : decide (y < 0) = false := by simpa using hy
    rw [e1, e2]
    clear e1 e2
    have hres : Hid (cmpI x y = -1) := by show cmpI x y = -1; unfold cmpI; rw [if_pos (by omega)]
    clear hx hy
    go_enter Try.func24, Try.ntmps24
    go_wp2
    go_ret
    exact ⟨ret_int hres.out.symm, ((Below.refl _ _).alloc (Nat.le_refl _) _).alloc (by simp) _⟩
  · have e1 : decide (x < 0) = false := by simpa using hx
    have e2 : decide (y < 0) = true := by simpa using hy
    rw [e1, e2]
    clear e1 e2
    have hres : Hid (cmpI x y = 1) := by show cmpI x y = 1; unfold cmpI; rw [if_neg (by omega), if_pos (by omega)]
    clear hx hy
    go_enter Try.func24, Try.ntmps24
    go_wp2
    go_ret
    exact ⟨ret_int hres.out.symm, ((Below.refl _ _).alloc (Nat.le_refl _) _).alloc (by simp) _⟩
  · have e1 : decide (x < 0) = false := by simpa using hx
    have e2 : decide (y < 0) = false := by simpa using hy
    obtain ⟨c, hc⟩ : ∃ c, c = cmpN x.natAbs y.natAbs := ⟨_, rfl⟩
    have hb := cmpN_bd x.natAbs y.natAbs
    rw [← hc] at hb
    obtain ⟨hb1, hb2⟩ := hb
    have HC := Lib.hid hc
    clear hc
    rw [e1, e2]
    clear e1 e2
    have hres : Hid (cmpI x y = c) := by
      show cmpI x y = c
      rw [HC.out]; unfold cmpI cmpN; split <;> split <;> (try split) <;> (try split) <;> omega
    clear hx hy
    go_enter Try.func24, Try.ntmps24
    go_wp2_with (go_at_call 40; refine (size_any _ _ _ _ _ ((hd1.out.alloc _).alloc _) ((hd1'.out.alloc _).alloc _)).mono ?_; rw [← HC.out]; rintro e w' ⟨rfl, n, rfl⟩)
    go_ret
    exact ⟨ret_int hres.out.symm, below_drewN (((Below.refl _ _).alloc (Nat.le_refl _) _).alloc (by simp) _) _⟩

/-- A number that was stored into a struct's block reads there still. -/
theorem num_stored {w : World} {v : Value} {z : Int} {b : Nat} {cs : Array Value} {fr : Nat × Nat} (h : NumIs w v z) (hb : w.heap[b]? = some (.cells cs 25 fr)) (x y : Value) :
    NumIs ((w.setCell ⟨b, 0, none⟩ x).setCell ⟨b, 1, none⟩ y) v z := by
  have h1 : (w.setCell ⟨b, 0, none⟩ x).heap[b]? = some (.cells (cs.setIfInBounds 0 x) 25 fr) := by
    simp only [World.setCell, Array.getElem?_modify, if_true]
    rw [hb]; rfl
  exact h.keep (((IntKept.refl w).setCell (p := ⟨b, 0, none⟩) hb (by decide) x).setCell (p := ⟨b, 1, none⟩) h1 (by decide) y)
theorem below_stored {B : Nat} {W w : World} {b : Nat} (h : Below B W w) (hB : B ≤ b) (x y : Value) : Below B W ((w.setCell ⟨b, 0, none⟩ x).setCell ⟨b, 1, none⟩ y) :=
  (h.setCell (p := ⟨b, 0, none⟩) hB x).setCell (p := ⟨b, 1, none⟩) hB y
/-- The second of two new blocks. -/
theorem block_two {w w' : World} {o1 o2 : Obj} {B : Nat} (hb : Below B ((w.alloc o1).alloc o2) w') (hB : w.heap.size + 1 < B) : w'.heap[w.heap.size + 1]? = some o2 := by
  rw [hb.block _ hB]
  have := heap_alloc_new (w.alloc o1) o2
  simpa using this

set_option maxHeartbeats 1000000 in
theorem neg_any (w : World) (v : Value) (x : Int) (h : NumIs w v x) :
    Calls Try.prog 16 #[v] w fun e w' => ∃ u, e = .returned u ∧ NumIs w' u (-x) ∧ Below w.heap.size w w' := by
  obtain ⟨A, n, c, rfl, hd⟩ := h
  have hd1 := Lib.hid hd
  clear hd
  have hz : Hid (-x = if (!decide (x < 0)) then - val (digs x.natAbs) else val (digs x.natAbs)) := by
    show -x = _
    rw [val_digs]
    by_cases h0 : x < 0
    · simp [h0]; omega
    · simp [h0]; omega
  obtain ⟨b, hb⟩ : ∃ b, b = decide (x < 0) := ⟨_, rfl⟩
  rw [← hb] at hz ⊢
  clear hb
  obtain ⟨y, hy⟩ : ∃ y, y = -x := ⟨_, rfl⟩
  rw [← hy] at hz ⊢
  clear hy
  go_enter Try.func16, Try.ntmps16
  go_wp2_with (go_at_call 39; refine (clean_num _ _ _ _ y ((hd1.out.alloc _).alloc _) (digs_inR _) hz.out).mono ?_; rintro e w' ⟨u, rfl, ⟨A', n', c', rfl, hdig⟩, hbel⟩; obtain ⟨hc, hf⟩ := bcell hbel)
  have hblk := block_two hbel (by simp)
  refine bodyPost_ret (v := .agg #[.bool (decide (y < 0)), .slice A' n' c']) (by simp [results, Try.results16, go_sem, hc]) rfl ⟨_, rfl, num_stored ⟨_, _, _, rfl, hdig⟩ hblk _ _, ?_⟩
  exact below_stored ((((Below.refl _ _).alloc (Nat.le_refl _) _).alloc (by simp) _).trans (hbel.mono (by simp; omega))) (by omega) _ _
end Go.Proofs.Ytjnohdkpkbiclaa
