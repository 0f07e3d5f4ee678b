/-
  A reader in memory; the contracts of Read, cut, Rest, Fail, Ok and Done. Conditions: at most two million bytes.
-/
import Derived.Test.YtjijgoflbjbnfaaGreatVM6
namespace Go.Proofs.YtjijgoflbjbnfaaGreat.Oc
open Go.RowKit

def bok (l : List Int) : Prop := ∀ x ∈ l, 0 ≤ x ∧ x < 256
/-- The slice v holds the bytes l, outside of the block b. -/
def BA (w : World) (b : Nat) (v : Value) (l : List Int) : Prop :=
  ∃ A cap, v = .slice A l.length cap ∧ l.length ≤ cap ∧ (0 < l.length → ∃ g o, A = some ⟨g, o, none⟩ ∧ g < w.heap.size ∧ g < b ∧ ∀ i, i < l.length → w.cell? ⟨g, o + i, none⟩ = some (.int .u8 (l.getD i 0)))
theorem BA.at {w : World} {b : Nat} {v : Value} {l : List Int} (h : BA w b v l) : BAt w v l := by
  obtain ⟨A, cap, h1, h2, h3⟩ := h
  refine ⟨A, cap, h1, h2, fun hp => ?_⟩
  obtain ⟨g, o, h4, h5, _, h6⟩ := h3 hp
  exact ⟨g, o, h4, h5, h6⟩
theorem cell_grown {w w' : World} {b g o : Nat} (h : w.grownBy w' (some b)) (hg : g < w.heap.size) (hne : g ≠ b) : w'.cell? ⟨g, o, none⟩ = w.cell? ⟨g, o, none⟩ := by
  simp only [World.cell?]; rw [h.block g hg (fun e => hne (Option.some.inj e))]
theorem BA.kept {w w' : World} {b : Nat} {v : Value} {l : List Int} (h : BA w b v l) (hg : w.grownBy w' (some b)) : BA w' b v l := by
  obtain ⟨A, cap, h1, h2, h3⟩ := h
  refine ⟨A, cap, h1, h2, fun hp => ?_⟩
  obtain ⟨g, o, h4, h5, hne, h6⟩ := h3 hp
  exact ⟨g, o, h4, Nat.lt_of_lt_of_le h5 hg.size, hne, fun i hi => (cell_grown hg h5 (by omega)).trans (h6 i hi)⟩
/-- The reader b has made the mistake er, and the bytes l are left. -/
def RdR (w : World) (b : Nat) (er : Int) (l : List Int) (v : Value) : Prop :=
  w.heap[b]? = some (.cells #[.int .i64 er, v] 195 (0, 0)) ∧ BA w b v l ∧ bok l ∧ l.length ≤ 2000000
def RdTo (b : Nat) (w : World) (er : Int) (l : List Int) (w' : World) : Prop := ∃ v, RdR w' b er l v ∧ w.grownBy w' (some b)
theorem RdR.lt {w : World} {b : Nat} {er : Int} {l : List Int} {v : Value} (h : RdR w b er l v) : b < w.heap.size := (Array.getElem?_eq_some_iff.1 h.1).1
theorem RdR.below {w w' : World} {b : Nat} {er : Int} {l : List Int} {v : Value} (h : RdR w b er l v) (hb : Below w.heap.size w w') : RdR w' b er l v :=
  ⟨block_kept h.1 hb, h.2.1.kept (grownBy_of_below _ hb), h.2.2⟩
/-- What lies behind the reader may be written. -/
theorem RdR.upto {w w' : World} {b : Nat} {er : Int} {l : List Int} {v : Value} (h : RdR w b er l v) (hk : ∀ k, k ≤ b → w'.heap[k]? = w.heap[k]?) : RdR w' b er l v := by
  obtain ⟨h1, ⟨A, cap, h2, h3, h4⟩, h5⟩ := h
  refine ⟨(hk b (Nat.le_refl _)).trans h1, ⟨A, cap, h2, h3, fun hp => ?_⟩, h5⟩
  obtain ⟨g, o, h6, h7, h8, h9⟩ := h4 hp
  have hg := hk g (by omega)
  refine ⟨g, o, h6, ?_, h8, fun i hi => ?_⟩
  · rcases Nat.lt_or_ge g w'.heap.size with h10 | h10
    · exact h10
    · rw [Array.getElem?_eq_none h10, Array.getElem?_eq_getElem h7] at hg; cases hg
  · have := h9 i hi
    simp only [World.cell?] at this ⊢
    rw [hg]; exact this
theorem RdTo.trans {b : Nat} {w w1 w2 : World} {er : Int} {l : List Int} (h : w.grownBy w1 (some b)) (k : RdTo b w1 er l w2) : RdTo b w er l w2 := by
  obtain ⟨v, h1, h2⟩ := k
  exact ⟨v, h1, grownBy_trans h h2⟩
theorem RdTo.same {b : Nat} {w w' : World} {er : Int} {l : List Int} {v : Value} (h : RdR w b er l v) (hb : Below w.heap.size w w') : RdTo b w er l w' := ⟨v, h.below hb, grownBy_of_below _ hb⟩
theorem RdR.shape {w : World} {b : Nat} {er : Int} {l : List Int} {v : Value} (h : RdR w b er l v) : ∃ A cap, v = .slice A l.length cap ∧ l.length ≤ cap := by
  obtain ⟨A, cap, h1, h2, _⟩ := h.2.1
  exact ⟨A, cap, h1, h2⟩
theorem rd_set1 {w : World} {b : Nat} {er : Int} {l : List Int} {v : Value} (h : RdR w b er l v) (x : Int) : RdR (w.setCell ⟨b, 0, none⟩ (.int .i64 x)) b x l v ∧ w.grownBy (w.setCell ⟨b, 0, none⟩ (.int .i64 x)) (some b) :=
  ⟨⟨block_set1 h.1 _, h.2.1.kept (grownBy_set w ⟨b, 0, none⟩ _), h.2.2⟩, grownBy_set w ⟨b, 0, none⟩ _⟩
theorem rd_set2 {w w0 : World} {b : Nat} {er : Int} {l l' : List Int} {v v' : Value} (h : RdR w b er l v) (h0 : BA w0 b v' l') (hg : w0.grownBy w (some b)) (hk : bok l') (hl : l'.length ≤ 2000000) : RdR (w.setCell ⟨b, 1, none⟩ v') b er l' v' ∧ w.grownBy (w.setCell ⟨b, 1, none⟩ v') (some b) :=
  ⟨⟨block_set2 h.1 _, (h0.kept hg).kept (grownBy_set w ⟨b, 1, none⟩ _), hk, hl⟩, grownBy_set w ⟨b, 1, none⟩ _⟩

set_option maxRecDepth 100000 in
/-- A new reader. -/
theorem read_any (w : World) (v : Value) (l : List Int) (h : BAt w v l) (hk : bok l) (hl : l.length ≤ 2000000) :
    Calls Tryz.prog 112 #[v] w fun e w' => ∃ b u, e = .returned (.pointer (some ⟨b, 0, none⟩)) ∧ w.heap.size ≤ b ∧ RdR w' b 0 l u ∧ Below w.heap.size w w' := by
  have HC := Lib.hid (clone_any w v l h hl)
  have HK : Hid (bok l ∧ l.length ≤ 2000000) := ⟨hk, hl⟩
  clear h hk hl
  go_enter Tryz.func112, Tryz.ntmps112
  go_wp2_with (go_at_call 38; refine HC.out.mono ?_; rintro e w1 ⟨u, rfl, ho, hb⟩; obtain ⟨A1, n1, c1, rfl⟩ : ∃ A n c, u = Value.slice A n c := (by obtain ⟨A, c, h, _⟩ := BAt.of_own ho; exact ⟨A, _, c, h⟩); have HO := Lib.hid ho; have HB := Lib.hid hb; clear ho hb)
  go_ret
  have hz := HB.out.size
  obtain ⟨u, hu⟩ : ∃ u, u = Value.slice A1 n1 c1 := ⟨_, rfl⟩
  rw [← hu] at HO ⊢
  have hba : BA (w1.alloc (.cells #[.int .i64 0, u] 195)) w1.heap.size u l := by
    obtain ⟨A, cap, h1, h2, h3⟩ := BAt.of_own HO.out
    refine ⟨A, cap, h1, h2, fun hp => ?_⟩
    obtain ⟨g, o, h4, h5, h6⟩ := h3 hp
    exact ⟨g, o, h4, by simp; omega, by omega, fun i hi => Lib.cell?_alloc_some _ (h6 i hi)⟩
  refine ⟨_, u, rfl, hz, ?_, HB.out.alloc hz _⟩
  exact ⟨block_new _ _, hba, HK.out.1, HK.out.2⟩

theorem slice_to (A : Option Addr) (n cap q : Nat) (h : q ≤ cap) : ∀ W : World, (Instr.slice 32 (.slice A n cap) none (some (.int .i64 (q : Int))) none).run Tryz.prog W = .ok (.slice A q cap) W := fun W => by
  cases A with
  | none => simp [Instr.slice, Instr.sliceBounds, Instr.sliceBound, asIntOf, run_underlying Tryz.underlying32, h]
  | some a =>
    obtain ⟨g, o, f⟩ := a
    simp [Instr.slice, Instr.sliceBounds, Instr.sliceBound, asIntOf, run_underlying Tryz.underlying32, h]
    try (unfold Addr.add; simp)
theorem slice_from (A : Option Addr) (n cap q : Nat) (h : q ≤ n) (h2 : n ≤ cap) : ∃ A' : Option Addr, (q < n → ∀ g o, A = some ⟨g, o, none⟩ → A' = some ⟨g, o + q, none⟩) ∧ ∀ W : World, (Instr.slice 32 (.slice A n cap) (some (.int .i64 (q : Int))) none none).run Tryz.prog W = .ok (.slice A' (n - q) (cap - q)) W := by
  obtain ⟨i0, hi0, hz0, hz1, hz2⟩ := info_parts u8Inf
  cases A with
  | none =>
    refine ⟨none, fun _ g o e => (by cases e), fun W => ?_⟩
    simp [Instr.slice, Instr.sliceBounds, Instr.sliceBound, asIntOf, run_underlying Tryz.underlying32, h]
  | some a =>
    by_cases hq : cap = q
    · refine ⟨some a, fun hlt => by omega, fun W => ?_⟩
      subst hq
      simp [Instr.slice, Instr.sliceBounds, Instr.sliceBound, asIntOf, run_underlying Tryz.underlying32, h, Go.sizeOf, typeInfo, hi0]
    · refine ⟨some (a.add q), fun _ g o e => ?_, fun W => ?_⟩
      · cases e
        unfold Addr.add; split <;> simp_all
      · simp [Instr.slice, Instr.sliceBounds, Instr.sliceBound, asIntOf, run_underlying Tryz.underlying32, h, Go.sizeOf, typeInfo, hi0, hz1, hq]

theorem bok_drop {l : List Int} (h : bok l) (n : Nat) : bok (l.drop n) := fun x hx => h x (List.mem_of_mem_drop hx)
theorem getD_drop (l : List Int) (n i : Nat) : (l.drop n).getD i 0 = l.getD (n + i) 0 := by simp [List.getD]
theorem getD_take {l : List Int} {n i : Nat} (h : i < n) : (l.take n).getD i 0 = l.getD i 0 := by simp [List.getD, h]
set_option maxRecDepth 100000 in
theorem cut_ok (w : World) (b : Nat) (er : Int) (l : List Int) (v : Value) (n : Nat) (h : RdR w b er l v) (hn : n ≤ l.length) :
    Calls Tryz.prog 149 #[.pointer (some ⟨b, 0, none⟩), .int .i64 (n : Int)] w fun e w' => ∃ u, e = .returned u ∧ BAt w' u (l.take n) ∧ RdTo b w er (l.drop n) w' := by
  obtain ⟨⟨c1, c2⟩, f1, f2⟩ := block_cell2 h.1
  obtain ⟨A, cap, rfl, hcap, hcell⟩ := h.2.1
  obtain ⟨m, hm⟩ : ∃ m, m = l.length := ⟨_, rfl⟩
  rw [← hm] at c2 hcap hn hcell
  have hs1 := slice_to A m cap n (by omega)
  obtain ⟨A', hA', hs2⟩ := slice_from A m cap n hn hcap
  have t1 : ¬ (m : Int) < (n : Int) := by omega
  have hl := h.2.2.2
  have hlt : (l.take n).length = n := by rw [List.length_take]; omega
  have hld : (l.drop n).length = m - n := by rw [List.length_drop, hm]
  have hb1 : BA w b (.slice A n cap) (l.take n) := by
    refine ⟨A, cap, by rw [hlt], by rw [hlt]; omega, fun hp => ?_⟩
    rw [hlt] at hp ⊢
    obtain ⟨g, o, h4, h5, h6, h7⟩ := hcell (by omega)
    exact ⟨g, o, h4, h5, h6, fun i hi => by rw [getD_take hi]; exact h7 i (by omega)⟩
  have hb2 : BA w b (.slice A' (m - n) (cap - n)) (l.drop n) := by
    refine ⟨A', cap - n, by rw [hld], by rw [hld]; omega, fun hp => ?_⟩
    rw [hld] at hp ⊢
    obtain ⟨g, o, h4, h5, h6, h7⟩ := hcell (by omega)
    refine ⟨g, o + n, hA' (by omega) g o h4, h5, h6, fun i hi => ?_⟩
    rw [getD_drop, Nat.add_assoc]
    exact h7 (n + i) (by omega)
  have HR : Hid (∀ w', w' = w.setCell ⟨b, 1, none⟩ (.slice A' (m - n) (cap - n)) → BAt w' (.slice A n cap) (l.take n) ∧ RdTo b w er (l.drop n) w') := fun w' e => by
    subst e
    have h8 := rd_set2 h hb2 (grownBy_refl _ _) (bok_drop h.2.2.1 n) (by rw [List.length_drop]; omega)
    exact ⟨(hb1.kept h8.2).at, _, h8.1, h8.2⟩
  clear h hb1 hb2 hcell hlt hld hm hA' hl
  go_enter Tryz.func149, Tryz.ntmps149
  go_wp2
  go_ret
  exact ⟨_, rfl, HR.out _ rfl⟩
set_option maxRecDepth 100000 in
theorem cut_end (w : World) (b : Nat) (l : List Int) (v : Value) (n : Nat) (h : RdR w b 0 l v) (hn : l.length < n) :
    Calls Tryz.prog 149 #[.pointer (some ⟨b, 0, none⟩), .int .i64 (n : Int)] w fun e w' => e = .returned (.slice none 0 0) ∧ RdTo b w 12 l w' := by
  obtain ⟨⟨c1, c2⟩, f1, f2⟩ := block_cell2 h.1
  obtain ⟨A, cap, rfl, hcap⟩ := h.shape
  have HF := Lib.hid (fail_set w b 12 c1 f1)
  have HR : Hid (RdTo b w 12 l (w.setCell ⟨b, 0, none⟩ (.int .i64 12))) := ⟨_, (rd_set1 h 12).1, (rd_set1 h 12).2⟩
  obtain ⟨m, hm⟩ : ∃ m, m = l.length := ⟨_, rfl⟩
  rw [← hm] at c2 hcap hn
  have t1 : (m : Int) < (n : Int) := by omega
  clear h hm
  go_enter Tryz.func149, Tryz.ntmps149
  go_wp2_with (go_at_call 142; refine HF.out.mono ?_; rintro e w1 ⟨rfl, rfl⟩)
  go_ret
  exact ⟨rfl, HR.out⟩

/-! ### Rest, Fail, Ok, Done -/
set_option maxRecDepth 100000 in
theorem rest_any (w : World) (b : Nat) (er : Int) (l : List Int) (v : Value) (h : RdR w b er l v) : Calls Tryz.prog 114 #[.pointer (some ⟨b, 0, none⟩)] w fun e w' => e = .returned (.int .i64 (l.length : Int)) ∧ w = w' := by
  obtain ⟨⟨c1, c2⟩, _⟩ := block_cell2 h.1
  obtain ⟨A, cap, rfl, _⟩ := h.shape
  clear h
  go_enter Tryz.func114, Tryz.ntmps114
  go_wp2
  go_ret
  exact ⟨rfl, rfl⟩
set_option maxRecDepth 100000 in
theorem rest_nil (w : World) : Calls Tryz.prog 114 #[.pointer none] w fun e w' => e = .returned (.int .i64 0) ∧ w = w' := by
  go_enter Tryz.func114, Tryz.ntmps114
  go_wp2
  go_ret
  exact ⟨rfl, rfl⟩
set_option maxRecDepth 100000 in
theorem ok_nil (w : World) : Calls Tryz.prog 115 #[.pointer none] w fun e w' => e = .returned (.bool true) ∧ w = w' := by
  go_enter Tryz.func115, Tryz.ntmps115
  go_wp2
  go_ret
  exact ⟨rfl, rfl⟩
set_option maxRecDepth 100000 in
theorem rdone_nil (w : World) : Calls Tryz.prog 121 #[.pointer none] w fun e w' => e = .returned (.int .i64 0) ∧ w = w' := by
  go_enter Tryz.func121, Tryz.ntmps121
  go_wp2
  go_ret
  exact ⟨rfl, rfl⟩
/-- The mistake at the end. -/
def doneE (er : Int) (l : List Int) : Int := if er = 0 then (if l = [] then 0 else 3) else er
theorem doneE_yes {er : Int} (h : ¬ er = 0) (l : List Int) : doneE er l = er := by unfold doneE; rw [if_neg h]
set_option maxRecDepth 100000 in
theorem rdone_any (w : World) (b : Nat) (er : Int) (l : List Int) (v : Value) (h : RdR w b er l v) : Calls Tryz.prog 121 #[.pointer (some ⟨b, 0, none⟩)] w fun e w' => e = .returned (.int .i64 (doneE er l)) ∧ w = w' := by
  obtain ⟨⟨c1, c2⟩, f1, f2⟩ := block_cell2 h.1
  by_cases he : er = 0
  · subst he
    have HF := Lib.hid (failed_no w b c1)
    obtain ⟨A, cap, rfl, hcap⟩ := h.shape
    cases l with
    | nil =>
      show Calls _ _ _ _ fun e w' => e = .returned (.int .i64 0) ∧ w = w'
      have c3 : w.cell? ⟨b, 1, none⟩ = some (.slice A 0 cap) := c2
      clear h c2
      go_enter Tryz.func121, Tryz.ntmps121
      go_wp2_with (go_at_call 143; refine HF.out.mono ?_; rintro e w1 ⟨rfl, rfl⟩)
      go_ret
      exact ⟨rfl, rfl⟩
    | cons x r =>
      show Calls _ _ _ _ fun e w' => e = .returned (.int .i64 3) ∧ w = w'
      obtain ⟨m, hm⟩ : ∃ m, m = (x :: r).length := ⟨_, rfl⟩
      rw [← hm] at c2
      have t1 : (0 : Int) < (m : Int) := by rw [hm]; simp
      clear h hm hcap
      go_enter Tryz.func121, Tryz.ntmps121
      go_wp2_with (go_at_call 143; refine HF.out.mono ?_; rintro e w1 ⟨rfl, rfl⟩)
      go_ret
      exact ⟨rfl, rfl⟩
  · rw [doneE_yes he]
    have HF := Lib.hid (failed_yes w b er he c1)
    clear h
    go_enter Tryz.func121, Tryz.ntmps121
    go_wp2_with (go_at_call 143; refine HF.out.mono ?_; rintro e w1 ⟨rfl, rfl⟩)
    go_ret
    exact ⟨rfl, rfl⟩
end Go.Proofs.YtjijgoflbjbnfaaGreat.Oc

namespace Go.Proofs.YtjijgoflbjbnfaaGreat.Oc
open Go.RowKit

theorem rd_back {w w1 : World} {b : Nat} {er : Int} {l l1 : List Int} {v v1 : Value} (h : RdR w b 0 l v) (h1 : RdR w1 b er l1 v1) (hg : w.grownBy w1 (some b)) : RdTo b w er l (w1.setCell ⟨b, 1, none⟩ v) := by
  have h2 := rd_set2 h1 h.2.1 hg h.2.2.1 h.2.2.2
  exact ⟨v, h2.1, grownBy_trans hg h2.2⟩

/-! ### Int -/
set_option maxRecDepth 100000 in
theorem att_nilInt (w : World) (f : Value) : Calls Tryz.prog 139 #[.pointer none, f] w fun e w' => e = .returned (.int .i64 0) ∧ w = w' := by
  go_enter Tryz.func139, Tryz.ntmps139
  go_wp2
  go_ret
  exact ⟨rfl, rfl⟩
set_option maxRecDepth 100000 in
theorem att_badInt (w : World) (b : Nat) (er : Int) (f : Value) (h : w.cell? ⟨b, 0, none⟩ = some (.int .i64 er)) (he : ¬ er = 0) : Calls Tryz.prog 139 #[.pointer (some ⟨b, 0, none⟩), f] w fun e w' => e = .returned (.int .i64 0) ∧ w = w' := by
  have HF := Lib.hid (failed_yes w b er he h)
  go_enter Tryz.func139, Tryz.ntmps139
  go_wp2_with (go_at_call 143; refine HF.out.mono ?_; rintro e w1 ⟨rfl, rfl⟩)
  go_ret
  exact ⟨rfl, rfl⟩
set_option maxRecDepth 100000 in
theorem att_okInt (w : World) (b : Nat) (l l1 : List Int) (v x : Value) (h : RdR w b 0 l v) (bf : Nat) (fb : Array Value) (eg : ∀ args w, (callFunc bf args).run Tryz.prog w = .ok (.enter bf args) w)
    (hj : Calls Tryz.prog bf fb w fun e w' => e = .returned x ∧ RdTo b w 0 l1 w') :
    Calls Tryz.prog 139 #[.pointer (some ⟨b, 0, none⟩), .func (.func bf) #[] fb] w fun e w' => e = .returned x ∧ RdTo b w 0 l1 w' := by
  obtain ⟨⟨c1, c2⟩, _⟩ := block_cell2 h.1
  have HF := Lib.hid (failed_no w b c1)
  obtain ⟨A, cap, rfl, _⟩ := h.shape
  have HJ := Lib.hid hj
  clear h hj
  go_enter Tryz.func139, Tryz.ntmps139
  go_wp2_with (first
    | (go_at_call 143; refine HF2.out.mono ?_; rintro e w2 ⟨rfl, rfl⟩)
    | (go_at_fn bf; refine HJ.out.mono ?_; rintro e w1 ⟨rfl, h1⟩; have H1 := Lib.hid h1; obtain ⟨v1, h2, _⟩ := h1; have HF2 := Lib.hid (failed_no w1 b (block_cell2 h2.1).1.1); clear h2)
    | (go_at_call 143; refine HF.out.mono ?_; rintro e w1 ⟨rfl, rfl⟩))
  go_ret
  exact ⟨rfl, H1.out⟩
set_option maxRecDepth 100000 in
theorem att_errInt (w : World) (b : Nat) (er : Int) (l : List Int) (v : Value) (h : RdR w b 0 l v) (he : ¬ er = 0) (bf : Nat) (fb : Array Value) (eg : ∀ args w, (callFunc bf args).run Tryz.prog w = .ok (.enter bf args) w)
    (hj : Calls Tryz.prog bf fb w fun e w' => ∃ x l1, e = .returned x ∧ RdTo b w er l1 w') :
    Calls Tryz.prog 139 #[.pointer (some ⟨b, 0, none⟩), .func (.func bf) #[] fb] w fun e w' => e = .returned (.int .i64 0) ∧ RdTo b w er l w' := by
  obtain ⟨⟨c1, c2⟩, _⟩ := block_cell2 h.1
  have HF := Lib.hid (failed_no w b c1)
  have HR := Lib.hid h
  obtain ⟨A, cap, rfl, _⟩ := h.shape
  have HJ := Lib.hid hj
  clear h hj
  go_enter Tryz.func139, Tryz.ntmps139
  go_wp2_with (first
    | (go_at_call 143; refine HF2.out.mono ?_; rintro e w2 ⟨rfl, rfl⟩)
    | (go_at_fn bf; refine HJ.out.mono ?_; rintro e w1 ⟨x, l1, rfl, v1, h2, hg2⟩; have HB := Lib.hid (rd_back HR.out h2 hg2); have HF2 := Lib.hid (failed_yes w1 b er he (block_cell2 h2.1).1.1); obtain ⟨⟨_, d2⟩, _, f2⟩ := block_cell2 h2.1; clear h2 hg2)
    | (go_at_call 143; refine HF.out.mono ?_; rintro e w1 ⟨rfl, rfl⟩))
  go_ret
  exact ⟨rfl, HB.out⟩

/-! ### I64 -/
/-! ### Str -/
set_option maxRecDepth 100000 in
theorem att_nilStr (w : World) (f : Value) : Calls Tryz.prog 147 #[.pointer none, f] w fun e w' => e = .returned (.string ByteArray.empty) ∧ w = w' := by
  go_enter Tryz.func147, Tryz.ntmps147
  go_wp2
  go_ret
  exact ⟨rfl, rfl⟩
set_option maxRecDepth 100000 in
theorem att_badStr (w : World) (b : Nat) (er : Int) (f : Value) (h : w.cell? ⟨b, 0, none⟩ = some (.int .i64 er)) (he : ¬ er = 0) : Calls Tryz.prog 147 #[.pointer (some ⟨b, 0, none⟩), f] w fun e w' => e = .returned (.string ByteArray.empty) ∧ w = w' := by
  have HF := Lib.hid (failed_yes w b er he h)
  go_enter Tryz.func147, Tryz.ntmps147
  go_wp2_with (go_at_call 143; refine HF.out.mono ?_; rintro e w1 ⟨rfl, rfl⟩)
  go_ret
  exact ⟨rfl, rfl⟩
set_option maxRecDepth 100000 in
theorem att_okStr (w : World) (b : Nat) (l l1 : List Int) (v x : Value) (h : RdR w b 0 l v) (bf : Nat) (fb : Array Value) (eg : ∀ args w, (callFunc bf args).run Tryz.prog w = .ok (.enter bf args) w)
    (hj : Calls Tryz.prog bf fb w fun e w' => e = .returned x ∧ RdTo b w 0 l1 w') :
    Calls Tryz.prog 147 #[.pointer (some ⟨b, 0, none⟩), .func (.func bf) #[] fb] w fun e w' => e = .returned x ∧ RdTo b w 0 l1 w' := by
  obtain ⟨⟨c1, c2⟩, _⟩ := block_cell2 h.1
  have HF := Lib.hid (failed_no w b c1)
  obtain ⟨A, cap, rfl, _⟩ := h.shape
  have HJ := Lib.hid hj
  clear h hj
  go_enter Tryz.func147, Tryz.ntmps147
  go_wp2_with (first
    | (go_at_call 143; refine HF2.out.mono ?_; rintro e w2 ⟨rfl, rfl⟩)
    | (go_at_fn bf; refine HJ.out.mono ?_; rintro e w1 ⟨rfl, h1⟩; have H1 := Lib.hid h1; obtain ⟨v1, h2, _⟩ := h1; have HF2 := Lib.hid (failed_no w1 b (block_cell2 h2.1).1.1); clear h2)
    | (go_at_call 143; refine HF.out.mono ?_; rintro e w1 ⟨rfl, rfl⟩))
  go_ret
  exact ⟨rfl, H1.out⟩
set_option maxRecDepth 100000 in
theorem att_errStr (w : World) (b : Nat) (er : Int) (l : List Int) (v : Value) (h : RdR w b 0 l v) (he : ¬ er = 0) (bf : Nat) (fb : Array Value) (eg : ∀ args w, (callFunc bf args).run Tryz.prog w = .ok (.enter bf args) w)
    (hj : Calls Tryz.prog bf fb w fun e w' => ∃ x l1, e = .returned x ∧ RdTo b w er l1 w') :
    Calls Tryz.prog 147 #[.pointer (some ⟨b, 0, none⟩), .func (.func bf) #[] fb] w fun e w' => e = .returned (.string ByteArray.empty) ∧ RdTo b w er l w' := by
  obtain ⟨⟨c1, c2⟩, _⟩ := block_cell2 h.1
  have HF := Lib.hid (failed_no w b c1)
  have HR := Lib.hid h
  obtain ⟨A, cap, rfl, _⟩ := h.shape
  have HJ := Lib.hid hj
  clear h hj
  go_enter Tryz.func147, Tryz.ntmps147
  go_wp2_with (first
    | (go_at_call 143; refine HF2.out.mono ?_; rintro e w2 ⟨rfl, rfl⟩)
    | (go_at_fn bf; refine HJ.out.mono ?_; rintro e w1 ⟨x, l1, rfl, v1, h2, hg2⟩; have HB := Lib.hid (rd_back HR.out h2 hg2); have HF2 := Lib.hid (failed_yes w1 b er he (block_cell2 h2.1).1.1); obtain ⟨⟨_, d2⟩, _, f2⟩ := block_cell2 h2.1; clear h2 hg2)
    | (go_at_call 143; refine HF.out.mono ?_; rintro e w1 ⟨rfl, rfl⟩))
  go_ret
  exact ⟨rfl, HB.out⟩

/-! ### Byte -/
set_option maxRecDepth 100000 in
theorem att_nilByte (w : World) (f : Value) : Calls Tryz.prog 177 #[.pointer none, f] w fun e w' => e = .returned (.int .u8 0) ∧ w = w' := by
  go_enter Tryz.func177, Tryz.ntmps177
  go_wp2
  go_ret
  exact ⟨rfl, rfl⟩
set_option maxRecDepth 100000 in
theorem att_badByte (w : World) (b : Nat) (er : Int) (f : Value) (h : w.cell? ⟨b, 0, none⟩ = some (.int .i64 er)) (he : ¬ er = 0) : Calls Tryz.prog 177 #[.pointer (some ⟨b, 0, none⟩), f] w fun e w' => e = .returned (.int .u8 0) ∧ w = w' := by
  have HF := Lib.hid (failed_yes w b er he h)
  go_enter Tryz.func177, Tryz.ntmps177
  go_wp2_with (go_at_call 143; refine HF.out.mono ?_; rintro e w1 ⟨rfl, rfl⟩)
  go_ret
  exact ⟨rfl, rfl⟩
set_option maxRecDepth 100000 in
theorem att_okByte (w : World) (b : Nat) (l l1 : List Int) (v x : Value) (h : RdR w b 0 l v) (bf : Nat) (fb : Array Value) (eg : ∀ args w, (callFunc bf args).run Tryz.prog w = .ok (.enter bf args) w)
    (hj : Calls Tryz.prog bf fb w fun e w' => e = .returned x ∧ RdTo b w 0 l1 w') :
    Calls Tryz.prog 177 #[.pointer (some ⟨b, 0, none⟩), .func (.func bf) #[] fb] w fun e w' => e = .returned x ∧ RdTo b w 0 l1 w' := by
  obtain ⟨⟨c1, c2⟩, _⟩ := block_cell2 h.1
  have HF := Lib.hid (failed_no w b c1)
  obtain ⟨A, cap, rfl, _⟩ := h.shape
  have HJ := Lib.hid hj
  clear h hj
  go_enter Tryz.func177, Tryz.ntmps177
  go_wp2_with (first
    | (go_at_call 143; refine HF2.out.mono ?_; rintro e w2 ⟨rfl, rfl⟩)
    | (go_at_fn bf; refine HJ.out.mono ?_; rintro e w1 ⟨rfl, h1⟩; have H1 := Lib.hid h1; obtain ⟨v1, h2, _⟩ := h1; have HF2 := Lib.hid (failed_no w1 b (block_cell2 h2.1).1.1); clear h2)
    | (go_at_call 143; refine HF.out.mono ?_; rintro e w1 ⟨rfl, rfl⟩))
  go_ret
  exact ⟨rfl, H1.out⟩
set_option maxRecDepth 100000 in
theorem att_errByte (w : World) (b : Nat) (er : Int) (l : List Int) (v : Value) (h : RdR w b 0 l v) (he : ¬ er = 0) (bf : Nat) (fb : Array Value) (eg : ∀ args w, (callFunc bf args).run Tryz.prog w = .ok (.enter bf args) w)
    (hj : Calls Tryz.prog bf fb w fun e w' => ∃ x l1, e = .returned x ∧ RdTo b w er l1 w') :
    Calls Tryz.prog 177 #[.pointer (some ⟨b, 0, none⟩), .func (.func bf) #[] fb] w fun e w' => e = .returned (.int .u8 0) ∧ RdTo b w er l w' := by
  obtain ⟨⟨c1, c2⟩, _⟩ := block_cell2 h.1
  have HF := Lib.hid (failed_no w b c1)
  have HR := Lib.hid h
  obtain ⟨A, cap, rfl, _⟩ := h.shape
  have HJ := Lib.hid hj
  clear h hj
  go_enter Tryz.func177, Tryz.ntmps177
  go_wp2_with (first
    | (go_at_call 143; refine HF2.out.mono ?_; rintro e w2 ⟨rfl, rfl⟩)
    | (go_at_fn bf; refine HJ.out.mono ?_; rintro e w1 ⟨x, l1, rfl, v1, h2, hg2⟩; have HB := Lib.hid (rd_back HR.out h2 hg2); have HF2 := Lib.hid (failed_yes w1 b er he (block_cell2 h2.1).1.1); obtain ⟨⟨_, d2⟩, _, f2⟩ := block_cell2 h2.1; clear h2 hg2)
    | (go_at_call 143; refine HF.out.mono ?_; rintro e w1 ⟨rfl, rfl⟩))
  go_ret
  exact ⟨rfl, HB.out⟩
end Go.Proofs.YtjijgoflbjbnfaaGreat.Oc

namespace Go.Proofs.YtjijgoflbjbnfaaGreat.Oc
open Go.RowKit

def boxO (b : Nat) : Obj := .cells #[.pointer (some ⟨b, 0, none⟩)] 169 (0, 0)
theorem rd_box {w : World} {b : Nat} {er : Int} {l : List Int} {v : Value} (h : RdR w b er l v) (o : Obj) : RdR (w.alloc o) b er l v := h.below ((Below.refl _ _).alloc (Nat.le_refl _) _)
theorem BAt.len {w : World} {v : Value} {l : List Int} (h : BAt w v l) : ∃ A cap, v = .slice A l.length cap := by
  obtain ⟨A, cap, h1, _⟩ := h
  exact ⟨A, cap, h1⟩
set_option maxRecDepth 100000 in
theorem byte1_some (w : World) (b B : Nat) (x : Int) (r : List Int) (v : Value) (h : RdR w b 0 (x :: r) v) (hB : w.heap[B]? = some (boxO b)) :
    Calls Tryz.prog 178 #[.pointer (some ⟨B, 0, none⟩)] w fun e w' => e = .returned (.int .u8 x) ∧ RdTo b w 0 r w' := by
  obtain ⟨c1, _⟩ := block_cell hB
  have HC := Lib.hid (cut_ok w b 0 (x :: r) v 1 h (by simp))
  clear h hB
  go_enter Tryz.func178, Tryz.ntmps178
  go_wp2_with (go_at_call 149; refine HC.out.mono ?_; rintro e w1 ⟨u, rfl, ⟨A, cap, rfl, _, hcell⟩, hr⟩; have HR := Lib.hid hr; obtain ⟨g, o, rfl, _, hc⟩ := hcell (by simp); have d1 : w1.cell? ⟨g, o, none⟩ = some (.int .u8 x) := (by simpa using hc 0 (by simp)); clear hr hc hcell)
  go_ret
  exact ⟨rfl, by simpa using HR.out⟩
set_option maxRecDepth 100000 in
theorem byte1_end (w : World) (b B : Nat) (v : Value) (h : RdR w b 0 [] v) (hB : w.heap[B]? = some (boxO b)) :
    Calls Tryz.prog 178 #[.pointer (some ⟨B, 0, none⟩)] w fun e w' => e = .returned (.int .u8 0) ∧ RdTo b w 12 [] w' := by
  obtain ⟨c1, _⟩ := block_cell hB
  have HC := Lib.hid (cut_end w b [] v 1 h (by simp))
  clear h hB
  go_enter Tryz.func178, Tryz.ntmps178
  go_wp2_with (go_at_call 149; refine HC.out.mono ?_; rintro e w1 ⟨rfl, hr⟩; have HR := Lib.hid hr; clear hr)
  go_ret
  exact ⟨rfl, HR.out⟩
theorem mkfn : ∀ (fn : Fn) (first cap : Array Value) (w : World), (Instr.makeFunc fn first cap).run Tryz.prog w = .ok (.func fn first cap) w := fun _ _ _ _ => rfl

set_option maxRecDepth 100000 in
theorem rbyte_nil (w : World) : Calls Tryz.prog 168 #[.pointer none] w fun e w' => e = .returned (.int .u8 0) ∧ Below w.heap.size w w' := by
  have hmf := mkfn
  have HB : Hid (Below w.heap.size w (w.alloc (.cells #[.pointer none] 169))) := (Below.refl _ _).alloc (Nat.le_refl _) _
  go_enter Tryz.func168, Tryz.ntmps168
  go_wp2_with (go_at_call 177; refine (att_nilByte _ _).mono ?_; rintro e w1 ⟨rfl, rfl⟩)
  go_ret
  exact ⟨rfl, HB.out⟩
set_option maxRecDepth 100000 in
theorem rbyte_bad (w : World) (b : Nat) (er : Int) (l : List Int) (v : Value) (h : RdR w b er l v) (he : ¬ er = 0) : Calls Tryz.prog 168 #[.pointer (some ⟨b, 0, none⟩)] w fun e w' => e = .returned (.int .u8 0) ∧ RdTo b w er l w' := by
  have hmf := mkfn
  have HR : Hid (RdTo b w er l (w.alloc (boxO b))) := RdTo.same h ((Below.refl _ _).alloc (Nat.le_refl _) _)
  have HC : Hid ((w.alloc (boxO b)).cell? ⟨b, 0, none⟩ = some (.int .i64 er)) := (block_cell2 (rd_box h (boxO b)).1).1.1
  clear h
  unfold boxO at *
  go_enter Tryz.func168, Tryz.ntmps168
  go_wp2_with (go_at_call 177; refine (att_badByte _ b er _ HC.out he).mono ?_; rintro e w1 ⟨rfl, rfl⟩)
  go_ret
  exact ⟨rfl, HR.out⟩
set_option maxRecDepth 100000 in
theorem rbyte_some (w : World) (b : Nat) (x : Int) (r : List Int) (v : Value) (h : RdR w b 0 (x :: r) v) : Calls Tryz.prog 168 #[.pointer (some ⟨b, 0, none⟩)] w fun e w' => e = .returned (.int .u8 x) ∧ RdTo b w 0 r w' := by
  have hmf := mkfn
  have HA := Lib.hid (att_okByte (w.alloc (boxO b)) b (x :: r) r v (.int .u8 x) (rd_box h _) 178 #[.pointer (some ⟨w.heap.size, 0, none⟩)] (enters_of Tryz.func178 (by kernel_rfl) rfl) (byte1_some _ b w.heap.size x r v (rd_box h _) (block_new _ _)))
  have HG := Lib.hid (grownBy_alloc w (boxO b) (some b))
  clear h
  unfold boxO at *
  go_enter Tryz.func168, Tryz.ntmps168
  go_wp2_with (go_at_call 177; refine HA.out.mono ?_; rintro e w1 ⟨rfl, h1⟩; have H1 := Lib.hid (RdTo.trans HG.out h1); clear h1)
  go_ret
  exact ⟨rfl, H1.out⟩
set_option maxRecDepth 100000 in
theorem rbyte_end (w : World) (b : Nat) (v : Value) (h : RdR w b 0 [] v) : Calls Tryz.prog 168 #[.pointer (some ⟨b, 0, none⟩)] w fun e w' => e = .returned (.int .u8 0) ∧ RdTo b w 12 [] w' := by
  have hmf := mkfn
  have HA := Lib.hid (att_errByte (w.alloc (boxO b)) b 12 [] v (rd_box h _) (by decide) 178 #[.pointer (some ⟨w.heap.size, 0, none⟩)] (enters_of Tryz.func178 (by kernel_rfl) rfl) ((byte1_end _ b w.heap.size v (rd_box h _) (block_new _ _)).mono fun e w' h1 => ⟨_, _, h1.1, h1.2⟩))
  have HG := Lib.hid (grownBy_alloc w (boxO b) (some b))
  clear h
  unfold boxO at *
  go_enter Tryz.func168, Tryz.ntmps168
  go_wp2_with (go_at_call 177; refine HA.out.mono ?_; rintro e w1 ⟨rfl, h1⟩; have H1 := Lib.hid (RdTo.trans HG.out h1); clear h1)
  go_ret
  exact ⟨rfl, H1.out⟩
end Go.Proofs.YtjijgoflbjbnfaaGreat.Oc

namespace Go.Proofs.YtjijgoflbjbnfaaGreat.Oc
open Go.RowKit

/-- What is read of l as groups, k of them at most, the first of them the at-th: the mistake, the number, what is left. -/
def rgF : Nat → Nat → Nat → List Int → Int × Nat × List Int
  | 0, _, _, l => (3, 0, l)
  | _ + 1, _, _, [] => (12, 0, [])
  | k + 1, at', acc, x :: r => if 128 ≤ x then rgF k (at' + 1) (acc + (x - 128).toNat * 128 ^ at') r
      else if (0 < at' ∧ x = 0) ∨ (at' = 9 ∧ ¬ x = 1) then (3, 0, r) else (0, acc + x.toNat * 128 ^ at', r)
def rg (l : List Int) : Int × Nat × List Int := rgF 10 0 0 l
theorem rgF_end (k at' acc : Nat) : rgF (k + 1) at' acc [] = (12, 0, []) := rfl
theorem rgF_more {k at' acc : Nat} {x : Int} {r : List Int} (h : 128 ≤ x) : rgF (k + 1) at' acc (x :: r) = rgF k (at' + 1) (acc + (x - 128).toNat * 128 ^ at') r := by rw [rgF, if_pos h]
theorem rgF_bad {k at' acc : Nat} {x : Int} {r : List Int} (h : x < 128) (h2 : (0 < at' ∧ x = 0) ∨ (at' = 9 ∧ ¬ x = 1)) : rgF (k + 1) at' acc (x :: r) = (3, 0, r) := by rw [rgF, if_neg (by omega), if_pos h2]
theorem rgF_good {k at' acc : Nat} {x : Int} {r : List Int} (h : x < 128) (h2 : ¬ ((0 < at' ∧ x = 0) ∨ (at' = 9 ∧ ¬ x = 1))) : rgF (k + 1) at' acc (x :: r) = (0, acc + x.toNat * 128 ^ at', r) := by rw [rgF, if_neg (by omega), if_neg h2]

theorem two_pow7 (i : Nat) : (2 : Int) ^ (7 * i) = ((128 ^ i : Nat) : Int) := by
  rw [Int.pow_mul]; simp
theorem grp_val (i acc : Nat) (x : Int) (_h0 : 0 ≤ x) (hs : acc + (x % 128).toNat * 128 ^ i < 18446744073709551616) :
    IntKind.u64.wrap ((acc : Int) + IntKind.u64.wrap (x % 128 * 2 ^ (7 * i))) = ((acc + (x % 128).toNat * 128 ^ i : Nat) : Int) := by
  obtain ⟨y, hy⟩ : ∃ y, y = (x % 128).toNat := ⟨_, rfl⟩
  have hx : x % 128 = (y : Int) := by omega
  rw [hx, Int.toNat_natCast] at hs
  rw [two_pow7, hx, Int.toNat_natCast]
  obtain ⟨z, hz⟩ : ∃ z, z = y * 128 ^ i := ⟨_, rfl⟩
  rw [← hz] at hs ⊢
  rw [← Int.natCast_mul, ← hz, IntKind.wrap_u64, IntKind.wrap_u64]
  omega
/-- While groups are read: i are read. -/
def RgI (b : Nat) (w : World) (l : List Int) (i : Nat) (N : Int) (wx : World) : Prop :=
  ∃ (acc : Nat) (li : List Int), RdTo b w 0 li wx ∧ rgF (10 - i) i acc li = rg l ∧ (i ≤ 9 → N = (acc : Int) ∧ acc < 128 ^ i)
set_option maxRecDepth 100000 in
set_option maxHeartbeats 4000000 in
theorem rgroups_any (w : World) (b : Nat) (l : List Int) (v : Value) (h : RdR w b 0 l v) :
    Calls Tryz.prog 141 #[.pointer (some ⟨b, 0, none⟩)] w fun e w' => e = .returned (.int .u64 ((rg l).2.1 : Int)) ∧ RdTo b w (rg l).1 (rg l).2.2 w' := by
  have HI : Hid (RgI b w l 0 0 w) := ⟨0, l, RdTo.same h (Below.refl _ _), rfl, fun _ => ⟨rfl, by simp⟩⟩
  clear h
  go_enter Tryz.func141, Tryz.ntmps141
  go_wp2
  go_loopg [3, 6] 10 (fun k s3 s6 wx => ∃ (i : Nat) (N : Int), k = 10 - i ∧ i ≤ 10 ∧ s3 = .int .u64 N ∧ s6 = .int .i64 (i : Int) ∧ Hid (RgI b w l i N wx))
  case atStart => exact ⟨0, 0, rfl, by omega, rfl, rfl, HI⟩
  case round =>
    clear HI
    obtain ⟨i, N, rfl, hi, rfl, rfl, hinv⟩ := hrel
    obtain ⟨acc, li, hrd, heq, hN⟩ := hinv.out
    obtain ⟨vi, hri, hgi⟩ := hrd
    by_cases hlt : i < 10
    · have t1 : (i : Int) < 10 := by omega
      have t0 : (0 : Int) ≤ (i : Int) := by omega
      obtain ⟨hN1, hN2⟩ := hN (by omega)
      cases li with
      | nil =>
        have HB := Lib.hid (rbyte_end wr b vi hri)
        have HGI := Lib.hid hgi
        have h0l : acc < 18446744073709551616 := by
          have : (128 : Nat) ^ i ≤ 128 ^ 9 := Nat.pow_le_pow_right (by decide) (by omega)
          have e9 : (128 : Nat) ^ 9 = 9223372036854775808 := by decide
          omega
        have HRG : Hid (rg l = (12, 0, [])) := by
          show _ = _
          rw [← heq, show 10 - i = (9 - i) + 1 by omega, rgF_end]
        subst hN1
        by_cases hi0 : i = 0
        · have hacc0 : Hid (acc = 0) := by show _ = _; subst hi0; omega
          have t2 : ¬ (0 : Int) < (i : Int) := by omega
          have t3 : ¬ (i : Int) = 9 := by omega
          clear hri hgi heq hinv hN hi0
          go_wp2_with (go_at_call 168; refine HB.out.mono ?_; rintro e w1 ⟨rfl, h1⟩; have H1 := Lib.hid (RdTo.trans HGI.out h1); clear h1)
          go_ret
          rw [HRG.out]
          exact ⟨by rw [hacc0.out]; rfl, H1.out⟩
        · have t2 : (0 : Int) < (i : Int) := by omega
          clear hri hgi heq hinv hN hi0
          go_wp2_with (first
            | (go_at_call 142; refine (fail_no w1 b 12 3 (by decide) (block_cell2 HV.out.1).1.1).mono ?_; rintro e w2 ⟨rfl, rfl⟩)
            | (go_at_call 168; refine HB.out.mono ?_; rintro e w1 ⟨rfl, h1⟩; have H1 := Lib.hid (RdTo.trans HGI.out h1); obtain ⟨v1, h2, _⟩ := h1; have HV := Lib.hid h2; clear h2))
          go_ret
          rw [HRG.out]
          exact ⟨rfl, H1.out⟩
      | cons x r =>
        have HB := Lib.hid (rbyte_some wr b x r vi hri)
        obtain ⟨hx0, hx1⟩ := hri.2.2.1 x (by simp)
        have HGI := Lib.hid hgi
        have HEQ := Lib.hid heq
        have HE10 : Hid (10 - i = (9 - i) + 1) := by show _ = _; omega
        have HA := Lib.hid hN2
        have HX0 := Lib.hid hx0
        subst hN1
        clear hri hgi heq hinv hN hN2
        by_cases hbig : 128 ≤ x
        · have HI2 : Hid (∀ w1, RdTo b w 0 r w1 → RgI b w l (i + 1) (IntKind.u64.wrap ((acc : Int) + IntKind.u64.wrap (x % 128 * 2 ^ (7 * i)))) w1) := by
            intro w1 h1
            refine ⟨acc + (x - 128).toNat * 128 ^ i, r, h1, ?_, fun hi9 => ?_⟩
            · rw [← HEQ.out, HE10.out, rgF_more hbig]; congr 1; omega
            · have e1 : (x % 128).toNat = (x - 128).toNat := by omega
              have h128 : (128 : Nat) ^ (i + 1) = 128 * 128 ^ i := by rw [Nat.pow_succ]; omega
              have hle : (128 : Nat) ^ (i + 1) ≤ 128 ^ 9 := Nat.pow_le_pow_right (by decide) (by omega)
              have e9 : (128 : Nat) ^ 9 = 9223372036854775808 := by decide
              have hm : (x - 128).toNat * 128 ^ i ≤ 127 * 128 ^ i := Nat.mul_le_mul_right _ (by omega)
              have hA := HA.out
              rw [grp_val i acc x hx0 (by rw [e1]; omega), e1]
              exact ⟨rfl, by omega⟩
          go_wp2_with (go_at_call 168; refine HB.out.mono ?_; rintro e w1 ⟨rfl, h1⟩; have H1 := Lib.hid (RdTo.trans HGI.out h1); clear h1)
          go_roundg (10 - (i + 1))
          case measure => omega
          case rel => exact ⟨i + 1, _, rfl, hlt, rfl, by go_num, HI2.out _ H1.out⟩
        · have hsm : x < 128 := by omega
          by_cases hstop : (0 < i ∧ x = 0) ∨ (i = 9 ∧ ¬ x = 1)
          · have HRG : Hid (rg l = (3, 0, r)) := by
              show _ = _
              rw [← HEQ.out, HE10.out, rgF_bad hsm hstop]
            by_cases hx00 : x = 0
            · have t2 : (0 : Int) < (i : Int) := by omega
              clear hstop
              go_wp2_with (first
                | (go_at_call 142; refine (fail_set w1 b 3 (block_cell2 HV.out.1).1.1 (block_cell2 HV.out.1).2.1).mono ?_; rintro e w2 ⟨rfl, rfl⟩)
                | (go_at_call 168; refine HB.out.mono ?_; rintro e w1 ⟨rfl, v1, h2, hg2⟩; have HV := Lib.hid h2; have HG2 := Lib.hid (grownBy_trans HGI.out hg2); clear h2 hg2))
              go_ret
              rw [HRG.out]
              exact ⟨rfl, _, (rd_set1 HV.out 3).1, grownBy_trans HG2.out (rd_set1 HV.out 3).2⟩
            · have t2 : (i : Int) = 9 := by omega
              have t3 : ¬ x = 1 := by omega
              have t4 : i = 9 := by omega
              subst t4
              have b1 : (x == 0) = false := by simpa using hx00
              have b2 : (x != 1) = true := by simpa using t3
              clear hstop
              go_wp2_with (first
                | (go_at_call 142; refine (fail_set w1 b 3 (block_cell2 HV.out.1).1.1 (block_cell2 HV.out.1).2.1).mono ?_; rintro e w2 ⟨rfl, rfl⟩)
                | (go_at_call 168; refine HB.out.mono ?_; rintro e w1 ⟨rfl, v1, h2, hg2⟩; have HV := Lib.hid h2; have HG2 := Lib.hid (grownBy_trans HGI.out hg2); clear h2 hg2))
              go_ret
              rw [HRG.out]
              exact ⟨rfl, _, (rd_set1 HV.out 3).1, grownBy_trans HG2.out (rd_set1 HV.out 3).2⟩
          · have HRG : Hid (rg l = (0, acc + x.toNat * 128 ^ i, r)) := by
              show _ = _
              rw [← HEQ.out, HE10.out, rgF_good hsm hstop]
            have HV2 : Hid (IntKind.u64.wrap ((acc : Int) + IntKind.u64.wrap (x % 128 * 2 ^ (7 * i))) = ((acc + x.toNat * 128 ^ i : Nat) : Int)) := by
              show _ = _
              have e1 : (x % 128).toNat = x.toNat := by omega
              have hA := HA.out
              have hz : acc + (x % 128).toNat * 128 ^ i < 18446744073709551616 := by
                rw [e1]
                by_cases h9 : i = 9
                · subst h9
                  have e9 : (128 : Nat) ^ 9 = 9223372036854775808 := by decide
                  have hxx : x = 1 := by omega
                  subst hxx
                  rw [e9] at hA ⊢
                  show acc + 1 * _ < _
                  omega
                · have h128 : (128 : Nat) ^ (i + 1) = 128 * 128 ^ i := by rw [Nat.pow_succ]; omega
                  have hle : (128 : Nat) ^ (i + 1) ≤ 128 ^ 9 := Nat.pow_le_pow_right (by decide) (by omega)
                  have e9 : (128 : Nat) ^ 9 = 9223372036854775808 := by decide
                  have hm : x.toNat * 128 ^ i ≤ 127 * 128 ^ i := Nat.mul_le_mul_right _ (by omega)
                  omega
              rw [grp_val i acc x hx0 hz, e1]
            have FIN : Hid (∀ w1 (y : Int), RdTo b w 0 r w1 → y = IntKind.u64.wrap ((acc : Int) + IntKind.u64.wrap (x % 128 * 2 ^ (7 * i))) → Ending.returned (.int .u64 y) = Ending.returned (.int .u64 ((rg l).2.1 : Int)) ∧ RdTo b w (rg l).1 (rg l).2.2 w1) := by
              intro w1 y h1 hy
              rw [HRG.out, hy, HV2.out]
              exact ⟨rfl, h1⟩
            have t5 : ¬ (x = 0 ∧ 0 < i) := by omega
            have t6 : i = 9 → x = 1 := by omega
            have HT6 := Lib.hid t6
            by_cases hi0 : i = 0
            · have t2 : ¬ (0 : Int) < (i : Int) := by omega
              have t3 : ¬ (i : Int) = 9 := by omega
              clear hstop t5 t6 hi0
              go_wp2_with (go_at_call 168; refine HB.out.mono ?_; rintro e w1 ⟨rfl, h1⟩; have H1 := Lib.hid (RdTo.trans HGI.out h1); clear h1)
              go_ret
              exact FIN.out _ _ H1.out rfl
            · have t2 : (0 : Int) < (i : Int) := by omega
              have t7 : ¬ x = 0 := by omega
              by_cases h9 : i = 9
              · have t3 : (i : Int) = 9 := by omega
                have t8 : x = 1 := by omega
                have HI9 := Lib.hid h9
                subst t8
                clear hstop t5 t6 hi0 h9
                go_wp2_with (go_at_call 168; refine HB.out.mono ?_; rintro e w1 ⟨rfl, h1⟩; have H1 := Lib.hid (RdTo.trans HGI.out h1); clear h1)
                go_ret
                exact FIN.out w1 (IntKind.u64.wrap ((acc : Int) + 9223372036854775808)) H1.out (by rw [HI9.out]; simp [IntKind.wrap_u64])
              · have t3 : ¬ (i : Int) = 9 := by omega
                clear hstop t5 t6 hi0 h9
                go_wp2_with (go_at_call 168; refine HB.out.mono ?_; rintro e w1 ⟨rfl, h1⟩; have H1 := Lib.hid (RdTo.trans HGI.out h1); clear h1)
                go_ret
                exact FIN.out _ _ H1.out rfl
    · have hil : i = 10 := by omega
      subst hil
      have HRG : Hid (rg l = (3, 0, li)) := heq.symm
      have HGI := Lib.hid hgi
      have HV := Lib.hid hri
      obtain ⟨⟨c1, c2⟩, f1, f2⟩ := block_cell2 hri.1
      clear hri hgi heq hinv hN
      go_wp2_with (go_at_call 142; refine (fail_set wr b 3 c1 f1).mono ?_; rintro e w2 ⟨rfl, rfl⟩)
      go_ret
      rw [HRG.out]
      exact ⟨rfl, _, (rd_set1 HV.out 3).1, grownBy_trans HGI.out (rd_set1 HV.out 3).2⟩
end Go.Proofs.YtjijgoflbjbnfaaGreat.Oc

namespace Go.Proofs.YtjijgoflbjbnfaaGreat.Oc

theorem grpF_byte (k m : Nat) (hm : m < 2 * 128 ^ k) : bok (grpF k m) := by
  induction k generalizing m with
  | zero =>
    intro x hx
    rw [grpF, List.mem_singleton] at hx
    have : m < 2 := by simpa using hm
    omega
  | succ k ih =>
    intro x hx
    by_cases h : m < 128
    · rw [grpF_one h, List.mem_singleton] at hx
      omega
    · rw [grpF_more h] at hx
      rcases List.mem_cons.1 hx with h1 | h1
      · omega
      · exact ih (m / 128) (by rw [Nat.pow_succ] at hm; omega) x h1
theorem pow9 : (2 : Nat) * 128 ^ 9 = 18446744073709551616 := by decide
theorem grp_bok {m : Nat} (h : m < 18446744073709551616) : bok (grp m) := grpF_byte 9 m (by rw [pow9]; exact h)
theorem bok_app {l m : List Int} (h : bok l) (k : bok m) : bok (l ++ m) := fun x hx => by
  rcases List.mem_append.1 hx with h1 | h1
  · exact h x h1
  · exact k x h1
theorem word_bok (k x : Nat) : bok (wordF k x) := by
  induction k with
  | zero => intro y hy; rw [wordF] at hy; exact absurd hy (List.not_mem_nil)
  | succ k ih =>
    intro y hy
    rw [wordF] at hy
    rcases List.mem_cons.1 hy with h1 | h1
    · omega
    · exact ih y h1
theorem rgF_fwd (k at' acc m : Nat) (r : List Int) (hk : k + at' = 9) (hm : m < 2 * 128 ^ k) (h0 : 0 < at' → ¬ m = 0) : rgF (k + 1) at' acc (grpF k m ++ r) = (0, acc + m * 128 ^ at', r) := by
  induction k generalizing at' acc m with
  | zero =>
    have hm2 : m < 2 := by simpa using hm
    show rgF 1 at' acc ((m : Int) :: r) = _
    rw [rgF_good (by omega) (by omega)]
    simp
  | succ k ih =>
    by_cases h : m < 128
    · rw [grpF_one h]
      show rgF (k + 1 + 1) at' acc ((m : Int) :: r) = _
      rw [rgF_good (by omega) (by omega)]
      simp
    · rw [grpF_more h]
      show rgF (k + 1 + 1) at' acc ((((m % 128 : Nat) : Int) + 128) :: (grpF k (m / 128) ++ r)) = _
      rw [rgF_more (by omega), ih (at' + 1) _ (m / 128) (by omega) (by rw [Nat.pow_succ] at hm; omega) (fun _ => by omega)]
      have e1 : (((m % 128 : Nat) : Int) + 128 - 128).toNat = m % 128 := by omega
      rw [e1, Nat.pow_succ]
      have e2 : m / 128 * (128 ^ at' * 128) = 128 * (m / 128) * 128 ^ at' := by
        rw [Nat.mul_comm (128 ^ at') 128, ← Nat.mul_assoc, Nat.mul_comm (m / 128) 128]
      rw [e2, Nat.add_assoc, ← Nat.add_mul]
      have e3 : m % 128 + 128 * (m / 128) = m := by omega
      rw [e3]
theorem rgF_inv (k at' acc n : Nat) (l r : List Int) (hk : k + at' = 9) (hb : bok l) (h : rgF (k + 1) at' acc l = (0, n, r)) : ∃ m, n = acc + m * 128 ^ at' ∧ l = grpF k m ++ r ∧ (0 < at' → ¬ m = 0) ∧ m < 2 * 128 ^ k := by
  induction k generalizing at' acc l with
  | zero =>
    cases l with
    | nil => rw [rgF_end] at h; cases h
    | cons x s =>
      have hx := hb x (by simp)
      by_cases h1 : 128 ≤ x
      · rw [rgF_more h1] at h; cases h
      · by_cases h2 : (0 < at' ∧ x = 0) ∨ (at' = 9 ∧ ¬ x = 1)
        · rw [rgF_bad (by omega) h2] at h; cases h
        · rw [rgF_good (by omega) h2] at h
          simp only [Prod.mk.injEq, true_and] at h
          obtain ⟨h3, rfl⟩ := h
          refine ⟨x.toNat, h3.symm, ?_, by omega, by simp; omega⟩
          rw [grpF, Int.toNat_of_nonneg hx.1]; rfl
  | succ k ih =>
    cases l with
    | nil => rw [rgF_end] at h; cases h
    | cons x s =>
      have hx := hb x (by simp)
      by_cases h1 : 128 ≤ x
      · rw [rgF_more h1] at h
        obtain ⟨m, h3, h4, h5, h6⟩ := ih (at' + 1) _ s (by omega) (fun y hy => hb y (by simp [hy])) h
        have hm0 := h5 (by omega)
        refine ⟨(x - 128).toNat + 128 * m, ?_, ?_, fun _ => by omega, by rw [Nat.pow_succ]; omega⟩
        · rw [h3, Nat.pow_succ, Nat.add_assoc, Nat.add_mul]
          congr 2
          rw [Nat.mul_comm (128 ^ at') 128, ← Nat.mul_assoc, Nat.mul_comm m 128]
        · rw [grpF_more (by omega), h4]
          have e1 : ((x - 128).toNat + 128 * m) / 128 = m := by omega
          have e2 : ((((x - 128).toNat + 128 * m) % 128 : Nat) : Int) + 128 = x := by omega
          rw [e1, e2]; rfl
      · by_cases h2 : (0 < at' ∧ x = 0) ∨ (at' = 9 ∧ ¬ x = 1)
        · rw [rgF_bad (by omega) h2] at h; cases h
        · rw [rgF_good (by omega) h2] at h
          simp only [Prod.mk.injEq, true_and] at h
          obtain ⟨h3, rfl⟩ := h
          have h128 : 128 ≤ 128 ^ (k + 1) := by rw [Nat.pow_succ]; have := Nat.pow_pos (n := k) (show 0 < 128 by decide); omega
          refine ⟨x.toNat, h3.symm, ?_, by omega, by omega⟩
          rw [grpF_one (by omega), Int.toNat_of_nonneg hx.1]; rfl
theorem rg_grp (m : Nat) (r : List Int) (h : m < 18446744073709551616) : rg (grp m ++ r) = (0, m, r) := by
  have := rgF_fwd 9 0 0 m r rfl (by rw [pow9]; exact h) (fun h => by omega)
  rw [Nat.zero_add, Nat.pow_zero, Nat.mul_one] at this
  exact this
theorem rg_inv {l r : List Int} {n : Nat} (hb : bok l) (h : rg l = (0, n, r)) : n < 18446744073709551616 ∧ l = grp n ++ r := by
  obtain ⟨m, h1, h2, _, h4⟩ := rgF_inv 9 0 0 n l r rfl hb h
  have h5 : n = m := by rw [h1]; simp
  subst h5
  exact ⟨by rw [pow9] at h4; exact h4, h2⟩
theorem rgF_err (k at' acc : Nat) (l : List Int) (h : ¬ (rgF k at' acc l).1 = 0) : (rgF k at' acc l).2.1 = 0 := by
  induction k generalizing at' acc l with
  | zero => rfl
  | succ k ih =>
    cases l with
    | nil => rfl
    | cons x r =>
      by_cases h1 : 128 ≤ x
      · rw [rgF_more h1] at h ⊢; exact ih _ _ _ h
      · by_cases h2 : (0 < at' ∧ x = 0) ∨ (at' = 9 ∧ ¬ x = 1)
        · rw [rgF_bad (by omega) h2]
        · rw [rgF_good (by omega) h2] at h; exact absurd rfl h
/-- A number out of a count. -/
def unf (n : Nat) : Int := if n % 2 = 1 then -1 - ((n / 2 : Nat) : Int) else ((n / 2 : Nat) : Int)
theorem unf_fold (x : Int) : unf (fold x) = x := by
  unfold unf fold; split <;> split <;> omega
theorem fold_unf (n : Nat) : fold (unf n) = n := by
  unfold unf fold; split <;> split <;> omega
theorem unf_rng {n : Nat} (h : n < 18446744073709551616) : -9223372036854775808 ≤ unf n ∧ unf n < 9223372036854775808 := by
  unfold unf; split <;> omega
/-- A text out of bytes. -/
def u8s (l : List Int) : List UInt8 := l.map fun x => UInt8.ofNat x.toNat
def strOf (l : List Int) : ByteArray := ⟨(u8s l).toArray⟩
theorem sb_strOf {l : List Int} (h : bok l) : sb (strOf l) = l := by
  unfold sb strOf u8s
  simp only [List.map_map]
  conv => rhs; rw [← List.map_id l]
  apply List.map_congr_left
  intro x hx
  have := h x hx
  simp
  omega
theorem strOf_sb (s : ByteArray) : strOf (sb s) = s := by
  unfold sb strOf u8s
  have e : ((fun x : Int => UInt8.ofNat x.toNat) ∘ fun b : UInt8 => (b.toNat : Int)) = id := by funext b; simp
  rw [List.map_map, e]
  simp
theorem strOf_len (l : List Int) : (strOf l).size = l.length := by simp [strOf, u8s, ByteArray.size]
theorem sb_bok (s : ByteArray) : bok (sb s) := by
  intro x hx
  unfold sb at hx
  obtain ⟨b, _, rfl⟩ := List.mem_map.1 hx
  have := b.toNat_lt
  omega
end Go.Proofs.YtjijgoflbjbnfaaGreat.Oc

namespace Go.Proofs.YtjijgoflbjbnfaaGreat.Oc
open Go.RowKit

theorem two_cell {w : World} {B : Nat} {x : Value} {t : TypeId} (h : w.heap[B]? = some (.cells #[x] t (0, 0))) : w.cell? ⟨B, 0, none⟩ = some x := (block_cell h).1
theorem rg_lt {l : List Int} (hb : bok l) : (rg l).2.1 < 18446744073709551616 := by
  by_cases h : (rg l).1 = 0
  · have := (rg_inv (l := l) (n := (rg l).2.1) (r := (rg l).2.2) hb (by rw [← h])).1
    exact this
  · have : (rg l).2.1 = 0 := rgF_err 10 0 0 l h
    omega
end Go.Proofs.YtjijgoflbjbnfaaGreat.Oc
