/-
  A reader in memory; the contracts of Read, cut, Rest, Fail, Ok and Done. Conditions: at most two million bytes.
-/
import Derived.Test.YtganokcmcdkdgaaGreatPZ10
namespace Go.Proofs.YtganokcmcdkdgaaGreat.Oc
open Go.RowKit

def bok (l : List Int) : Prop := ∀ x ∈ l, 0 ≤ x ∧ x < 256
/-- The slice v holds the bytes l, outside of the block b. -/
def BA (w : World) (b : Nat) (v : Value) (l : List Int) : Prop :=
  ∃ A cap, v = .slice A l.length cap ∧ l.length ≤ cap ∧ (0 < l.length → ∃ g o, A = some ⟨g, o, none⟩ ∧ g < w.heap.size ∧ g < b ∧ ∀ i, i < l.length → w.cell? ⟨g, o + i, none⟩ = some (.int .u8 (l.getD i 0)))
theorem BA.at {w : World} {b : Nat} {v : Value} {l : List Int} (h : BA w b v l) : BAt w v l := by
  obtain ⟨A, cap, h1, h2, h3⟩ := h
  refine ⟨A, cap, h1, h2, fun hp => ?_⟩
  obtain ⟨g, o, h4, h5, _, h6⟩ := h3 hp
  exact ⟨g, o, h4, h5, h6⟩
theorem cell_grown {w w' : World} {b g o : Nat} (h : w.grownBy w' (some b)) (hg : g < w.heap.size) (hne : g ≠ b) : w'.cell? ⟨g, o, none⟩ = w.cell? ⟨g, o, none⟩ := by
  simp only [World.cell?]; rw [h.block g hg (fun e => hne (Option.some.inj e))]
theorem BA.kept {w w' : World} {b : Nat} {v : Value} {l : List Int} (h : BA w b v l) (hg : w.grownBy w' (some b)) : BA w' b v l := by
  obtain ⟨A, cap, h1, h2, h3⟩ := h
  refine ⟨A, cap, h1, h2, fun hp => ?_⟩
  obtain ⟨g, o, h4, h5, hne, h6⟩ := h3 hp
  exact ⟨g, o, h4, Nat.lt_of_lt_of_le h5 hg.size, hne, fun i hi => (cell_grown hg h5 (by omega)).trans (h6 i hi)⟩
/-- The reader b has made the mistake er, and the bytes l are left. -/
def RdR (w : World) (b : Nat) (er : Int) (l : List Int) (v : Value) : Prop :=
  w.heap[b]? = some (.cells #[.int .i64 er, v] 94 (0, 0)) ∧ BA w b v l ∧ bok l ∧ l.length ≤ 2000000
def RdTo (b : Nat) (w : World) (er : Int) (l : List Int) (w' : World) : Prop := ∃ v, RdR w' b er l v ∧ w.grownBy w' (some b)
theorem RdR.lt {w : World} {b : Nat} {er : Int} {l : List Int} {v : Value} (h : RdR w b er l v) : b < w.heap.size := (Array.getElem?_eq_some_iff.1 h.1).1
theorem RdR.below {w w' : World} {b : Nat} {er : Int} {l : List Int} {v : Value} (h : RdR w b er l v) (hb : Below w.heap.size w w') : RdR w' b er l v :=
  ⟨block_kept h.1 hb, h.2.1.kept (grownBy_of_below _ hb), h.2.2⟩
/-- What lies behind the reader may be written. -/
theorem RdR.upto {w w' : World} {b : Nat} {er : Int} {l : List Int} {v : Value} (h : RdR w b er l v) (hk : ∀ k, k ≤ b → w'.heap[k]? = w.heap[k]?) : RdR w' b er l v := by
  obtain ⟨h1, ⟨A, cap, h2, h3, h4⟩, h5⟩ := h
  refine ⟨(hk b (Nat.le_refl _)).trans h1, ⟨A, cap, h2, h3, fun hp => ?_⟩, h5⟩
  obtain ⟨g, o, h6, h7, h8, h9⟩ := h4 hp
  have hg := hk g (by omega)
  refine ⟨g, o, h6, ?_, h8, fun i hi => ?_⟩
  · rcases Nat.lt_or_ge g w'.heap.size with h10 | h10
    · exact h10
    · rw [Array.getElem?_eq_none h10, Array.getElem?_eq_getElem h7] at hg; cases hg
  · have := h9 i hi
    simp only [World.cell?] at this ⊢
    rw [hg]; exact this
theorem RdTo.trans {b : Nat} {w w1 w2 : World} {er : Int} {l : List Int} (h : w.grownBy w1 (some b)) (k : RdTo b w1 er l w2) : RdTo b w er l w2 := by
  obtain ⟨v, h1, h2⟩ := k
  exact ⟨v, h1, grownBy_trans h h2⟩
theorem RdTo.same {b : Nat} {w w' : World} {er : Int} {l : List Int} {v : Value} (h : RdR w b er l v) (hb : Below w.heap.size w w') : RdTo b w er l w' := ⟨v, h.below hb, grownBy_of_below _ hb⟩
theorem RdR.shape {w : World} {b : Nat} {er : Int} {l : List Int} {v : Value} (h : RdR w b er l v) : ∃ A cap, v = .slice A l.length cap ∧ l.length ≤ cap := by
  obtain ⟨A, cap, h1, h2, _⟩ := h.2.1
  exact ⟨A, cap, h1, h2⟩
theorem rd_set1 {w : World} {b : Nat} {er : Int} {l : List Int} {v : Value} (h : RdR w b er l v) (x : Int) : RdR (w.setCell ⟨b, 0, none⟩ (.int .i64 x)) b x l v ∧ w.grownBy (w.setCell ⟨b, 0, none⟩ (.int .i64 x)) (some b) :=
  ⟨⟨block_set1 h.1 _, h.2.1.kept (grownBy_set w ⟨b, 0, none⟩ _), h.2.2⟩, grownBy_set w ⟨b, 0, none⟩ _⟩
theorem rd_set2 {w w0 : World} {b : Nat} {er : Int} {l l' : List Int} {v v' : Value} (h : RdR w b er l v) (h0 : BA w0 b v' l') (hg : w0.grownBy w (some b)) (hk : bok l') (hl : l'.length ≤ 2000000) : RdR (w.setCell ⟨b, 1, none⟩ v') b er l' v' ∧ w.grownBy (w.setCell ⟨b, 1, none⟩ v') (some b) :=
  ⟨⟨block_set2 h.1 _, (h0.kept hg).kept (grownBy_set w ⟨b, 1, none⟩ _), hk, hl⟩, grownBy_set w ⟨b, 1, none⟩ _⟩

set_option maxRecDepth 100000 in
/-- A new reader. -/
theorem read_any (w : World) (v : Value) (l : List Int) (h : BAt w v l) (hk : bok l) (hl : l.length ≤ 2000000) :
    Calls Tryz.prog 23 #[v] w fun e w' => ∃ b u, e = .returned (.pointer (some ⟨b, 0, none⟩)) ∧ w.heap.size ≤ b ∧ RdR w' b 0 l u ∧ Below w.heap.size w w' := by
  have HC := Lib.hid (clone_any w v l h hl)
  have HK : Hid (bok l ∧ l.length ≤ 2000000) := ⟨hk, hl⟩
  clear h hk hl
  go_enter Tryz.func23, Tryz.ntmps23
  go_wp2_with (go_at_call 47; refine HC.out.mono ?_; rintro e w1 ⟨u, rfl, ho, hb⟩; obtain ⟨A1, n1, c1, rfl⟩ : ∃ A n c, u = Value.slice A n c := (by obtain ⟨A, c, h, _⟩ := BAt.of_own ho; exact ⟨A, _, c, h⟩); have HO := Lib.hid ho; have HB := Lib.hid hb; clear ho hb)
  go_ret
  have hz := HB.out.size
  obtain ⟨u, hu⟩ : ∃ u, u = Value.slice A1 n1 c1 := ⟨_, rfl⟩
  rw [← hu] at HO ⊢
  have hba : BA (w1.alloc (.cells #[.int .i64 0, u] 94)) w1.heap.size u l := by
    obtain ⟨A, cap, h1, h2, h3⟩ := BAt.of_own HO.out
    refine ⟨A, cap, h1, h2, fun hp => ?_⟩
    obtain ⟨g, o, h4, h5, h6⟩ := h3 hp
    exact ⟨g, o, h4, by simp; omega, by omega, fun i hi => Lib.cell?_alloc_some _ (h6 i hi)⟩
  refine ⟨_, u, rfl, hz, ?_, HB.out.alloc hz _⟩
  exact ⟨block_new _ _, hba, HK.out.1, HK.out.2⟩

theorem slice_to (A : Option Addr) (n cap q : Nat) (h : q ≤ cap) : ∀ W : World, (Instr.slice 22 (.slice A n cap) none (some (.int .i64 (q : Int))) none).run Tryz.prog W = .ok (.slice A q cap) W := fun W => by
  cases A with
  | none => simp [Instr.slice, Instr.sliceBounds, Instr.sliceBound, asIntOf, run_underlying Tryz.underlying22, h]
  | some a =>
    obtain ⟨g, o, f⟩ := a
    simp [Instr.slice, Instr.sliceBounds, Instr.sliceBound, asIntOf, run_underlying Tryz.underlying22, h]
    try (unfold Addr.add; simp)
theorem slice_from (A : Option Addr) (n cap q : Nat) (h : q ≤ n) (h2 : n ≤ cap) : ∃ A' : Option Addr, (q < n → ∀ g o, A = some ⟨g, o, none⟩ → A' = some ⟨g, o + q, none⟩) ∧ ∀ W : World, (Instr.slice 22 (.slice A n cap) (some (.int .i64 (q : Int))) none none).run Tryz.prog W = .ok (.slice A' (n - q) (cap - q)) W := by
  obtain ⟨i0, hi0, hz0, hz1, hz2⟩ := info_parts u8Inf
  cases A with
  | none =>
    refine ⟨none, fun _ g o e => (by cases e), fun W => ?_⟩
    simp [Instr.slice, Instr.sliceBounds, Instr.sliceBound, asIntOf, run_underlying Tryz.underlying22, h]
  | some a =>
    by_cases hq : cap = q
    · refine ⟨some a, fun hlt => by omega, fun W => ?_⟩
      subst hq
      simp [Instr.slice, Instr.sliceBounds, Instr.sliceBound, asIntOf, run_underlying Tryz.underlying22, h, Go.sizeOf, typeInfo, hi0]
    · refine ⟨some (a.add q), fun _ g o e => ?_, fun W => ?_⟩
      · cases e
        unfold Addr.add; split <;> simp_all
      · simp [Instr.slice, Instr.sliceBounds, Instr.sliceBound, asIntOf, run_underlying Tryz.underlying22, h, Go.sizeOf, typeInfo, hi0, hz1, hq]

theorem bok_drop {l : List Int} (h : bok l) (n : Nat) : bok (l.drop n) := fun x hx => h x (List.mem_of_mem_drop hx)
theorem getD_drop (l : List Int) (n i : Nat) : (l.drop n).getD i 0 = l.getD (n + i) 0 := by simp [List.getD]
theorem getD_take {l : List Int} {n i : Nat} (h : i < n) : (l.take n).getD i 0 = l.getD i 0 := by simp [List.getD, h]
set_option maxRecDepth 100000 in
theorem cut_ok (w : World) (b : Nat) (er : Int) (l : List Int) (v : Value) (n : Nat) (h : RdR w b er l v) (hn : n ≤ l.length) :
    Calls Tryz.prog 81 #[.pointer (some ⟨b, 0, none⟩), .int .i64 (n : Int)] w fun e w' => ∃ u, e = .returned u ∧ BAt w' u (l.take n) ∧ RdTo b w er (l.drop n) w' := by
  obtain ⟨⟨c1, c2⟩, f1, f2⟩ := block_cell2 h.1
  obtain ⟨A, cap, rfl, hcap, hcell⟩ := h.2.1
  obtain ⟨m, hm⟩ : ∃ m, m = l.length := ⟨_, rfl⟩
  rw [← hm] at c2 hcap hn hcell
  have hs1 := slice_to A m cap n (by omega)
  obtain ⟨A', hA', hs2⟩ := slice_from A m cap n hn hcap
  have t1 : ¬ (m : Int) < (n : Int) := by omega
  have hl := h.2.2.2
  have hlt : (l.take n).length = n := by rw [List.length_take]; omega
  have hld : (l.drop n).length = m - n := by rw [List.length_drop, hm]
  have hb1 : BA w b (.slice A n cap) (l.take n) := by
    refine ⟨A, cap, by rw [hlt], by rw [hlt]; omega, fun hp => ?_⟩
    rw [hlt] at hp ⊢
    obtain ⟨g, o, h4, h5, h6, h7⟩ := hcell (by omega)
    exact ⟨g, o, h4, h5, h6, fun i hi => by rw [getD_take hi]; exact h7 i (by omega)⟩
  have hb2 : BA w b (.slice A' (m - n) (cap - n)) (l.drop n) := by
    refine ⟨A', cap - n, by rw [hld], by rw [hld]; omega, fun hp => ?_⟩
    rw [hld] at hp ⊢
    obtain ⟨g, o, h4, h5, h6, h7⟩ := hcell (by omega)
    refine ⟨g, o + n, hA' (by omega) g o h4, h5, h6, fun i hi => ?_⟩
    rw [getD_drop, Nat.add_assoc]
    exact h7 (n + i) (by omega)
  have HR : Hid (∀ w', w' = w.setCell ⟨b, 1, none⟩ (.slice A' (m - n) (cap - n)) → BAt w' (.slice A n cap) (l.take n) ∧ RdTo b w er (l.drop n) w') := fun w' e => by
    subst e
    have h8 := rd_set2 h hb2 (grownBy_refl _ _) (bok_drop h.2.2.1 n) (by rw [List.length_drop]; omega)
    exact ⟨(hb1.kept h8.2).at, _, h8.1, h8.2⟩
  clear h hb1 hb2 hcell hlt hld hm hA' hl
  go_enter Tryz.func81, Tryz.ntmps81
  go_wp2
  go_ret
  exact ⟨_, rfl, HR.out _ rfl⟩
set_option maxRecDepth 100000 in
theorem cut_end (w : World) (b : Nat) (l : List Int) (v : Value) (n : Nat) (h : RdR w b 0 l v) (hn : l.length < n) :
    Calls Tryz.prog 81 #[.pointer (some ⟨b, 0, none⟩), .int .i64 (n : Int)] w fun e w' => e = .returned (.slice none 0 0) ∧ RdTo b w 12 l w' := by
  obtain ⟨⟨c1, c2⟩, f1, f2⟩ := block_cell2 h.1
  obtain ⟨A, cap, rfl, hcap⟩ := h.shape
  have HF := Lib.hid (fail_set w b 12 c1 f1)
  have HR : Hid (RdTo b w 12 l (w.setCell ⟨b, 0, none⟩ (.int .i64 12))) := ⟨_, (rd_set1 h 12).1, (rd_set1 h 12).2⟩
  obtain ⟨m, hm⟩ : ∃ m, m = l.length := ⟨_, rfl⟩
  rw [← hm] at c2 hcap hn
  have t1 : (m : Int) < (n : Int) := by omega
  clear h hm
  go_enter Tryz.func81, Tryz.ntmps81
  go_wp2_with (go_at_call 75; refine HF.out.mono ?_; rintro e w1 ⟨rfl, rfl⟩)
  go_ret
  exact ⟨rfl, HR.out⟩

/-! ### Rest, Fail, Ok, Done -/
set_option maxRecDepth 100000 in
theorem rfail_nil (w : World) (x : Int) : Calls Tryz.prog 53 #[.pointer none, .int .i64 x] w fun e w' => e = .returned (.tuple #[]) ∧ w = w' := by
  go_enter Tryz.func53, Tryz.ntmps53
  go_wp2
  go_end0
  exact ⟨rfl, rfl⟩
set_option maxRecDepth 100000 in
theorem rfail_any (w : World) (b : Nat) (er x : Int) (l : List Int) (v : Value) (h : RdR w b er l v) : Calls Tryz.prog 53 #[.pointer (some ⟨b, 0, none⟩), .int .i64 x] w fun e w' => e = .returned (.tuple #[]) ∧ RdTo b w (errB er x) l w' := by
  obtain ⟨⟨c1, c2⟩, f1, f2⟩ := block_cell2 h.1
  by_cases he : er = 0
  · subst he
    rw [errB_no]
    have HF := Lib.hid (fail_set w b x c1 f1)
    have HR : Hid (RdTo b w x l (w.setCell ⟨b, 0, none⟩ (.int .i64 x))) := ⟨_, (rd_set1 h x).1, (rd_set1 h x).2⟩
    clear h
    go_enter Tryz.func53, Tryz.ntmps53
    go_wp2_with (go_at_call 75; refine HF.out.mono ?_; rintro e w1 ⟨rfl, rfl⟩)
    go_end0
    exact ⟨rfl, HR.out⟩
  · rw [errB_yes he]
    have HF := Lib.hid (fail_no w b er x he c1)
    have HR := Lib.hid (RdTo.same h (Below.refl _ _))
    clear h
    go_enter Tryz.func53, Tryz.ntmps53
    go_wp2_with (go_at_call 75; refine HF.out.mono ?_; rintro e w1 ⟨rfl, rfl⟩)
    go_end0
    exact ⟨rfl, HR.out⟩
set_option maxRecDepth 100000 in
theorem rdone_nil (w : World) : Calls Tryz.prog 25 #[.pointer none] w fun e w' => e = .returned (.int .i64 0) ∧ w = w' := by
  go_enter Tryz.func25, Tryz.ntmps25
  go_wp2
  go_ret
  exact ⟨rfl, rfl⟩
/-- The mistake at the end. -/
def doneE (er : Int) (l : List Int) : Int := if er = 0 then (if l = [] then 0 else 3) else er
theorem doneE_yes {er : Int} (h : ¬ er = 0) (l : List Int) : doneE er l = er := by unfold doneE; rw [if_neg h]
set_option maxRecDepth 100000 in
theorem rdone_any (w : World) (b : Nat) (er : Int) (l : List Int) (v : Value) (h : RdR w b er l v) : Calls Tryz.prog 25 #[.pointer (some ⟨b, 0, none⟩)] w fun e w' => e = .returned (.int .i64 (doneE er l)) ∧ w = w' := by
  obtain ⟨⟨c1, c2⟩, f1, f2⟩ := block_cell2 h.1
  by_cases he : er = 0
  · subst he
    have HF := Lib.hid (failed_no w b c1)
    obtain ⟨A, cap, rfl, hcap⟩ := h.shape
    cases l with
    | nil =>
      show Calls _ _ _ _ fun e w' => e = .returned (.int .i64 0) ∧ w = w'
      have c3 : w.cell? ⟨b, 1, none⟩ = some (.slice A 0 cap) := c2
      clear h c2
      go_enter Tryz.func25, Tryz.ntmps25
      go_wp2_with (go_at_call 55; refine HF.out.mono ?_; rintro e w1 ⟨rfl, rfl⟩)
      go_ret
      exact ⟨rfl, rfl⟩
    | cons x r =>
      show Calls _ _ _ _ fun e w' => e = .returned (.int .i64 3) ∧ w = w'
      obtain ⟨m, hm⟩ : ∃ m, m = (x :: r).length := ⟨_, rfl⟩
      rw [← hm] at c2
      have t1 : (0 : Int) < (m : Int) := by rw [hm]; simp
      clear h hm hcap
      go_enter Tryz.func25, Tryz.ntmps25
      go_wp2_with (go_at_call 55; refine HF.out.mono ?_; rintro e w1 ⟨rfl, rfl⟩)
      go_ret
      exact ⟨rfl, rfl⟩
  · rw [doneE_yes he]
    have HF := Lib.hid (failed_yes w b er he c1)
    clear h
    go_enter Tryz.func25, Tryz.ntmps25
    go_wp2_with (go_at_call 55; refine HF.out.mono ?_; rintro e w1 ⟨rfl, rfl⟩)
    go_ret
    exact ⟨rfl, rfl⟩
end Go.Proofs.YtganokcmcdkdgaaGreat.Oc
