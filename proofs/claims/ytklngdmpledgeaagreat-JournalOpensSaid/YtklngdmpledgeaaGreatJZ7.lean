/-
  The contracts of the writer's Wide, Text and Done. Conditions: what is written has room, or there is a mistake.
-/
import Derived.Test.YtklngdmpledgeaaGreatJZ6
import Derived.Shelf.Bytes.SlClone
import Derived.Lib.AppendZeros
import Derived.Deep.RegionHeld3
namespace Go.Proofs.YtklngdmpledgeaaGreat.Oc
open Go.RowKit

/-- The k lowest bytes of a word, the highest first. -/
def wordF : Nat → Nat → List Int
  | 0, _ => []
  | k + 1, x => ((x / 256 ^ k % 256 : Nat) : Int) :: wordF k x
theorem wordF_len (k x : Nat) : (wordF k x).length = k := by
  induction k with
  | zero => rfl
  | succ k ih => simp [wordF, ih]
/-- The word's bytes while they are written: k are to come. -/
def WideI (w : World) (b : Nat) (er : Int) (v : Value) (l all : List Int) (lo k : Nat) (wx : World) : Prop :=
  ∃ acc, WrTo b v w er (addB er l acc) wx ∧ acc ++ wordF k lo = all
theorem WideI.block {w wx : World} {b : Nat} {er : Int} {v : Value} {l all : List Int} {lo k a : Nat} {o : Obj} (h : WideI w b er v l all lo k wx) (ha : w.heap[a]? = some o) (hb : a ≠ b) (hv : v.ownBlock ≠ some a) : wx.heap[a]? = some o := by
  obtain ⟨acc, ⟨v', _, h2⟩, _⟩ := h
  exact (h2.block a (Array.getElem?_eq_some_iff.1 ha).1 hb hv).trans ha
end Go.Proofs.YtklngdmpledgeaaGreat.Oc

namespace Go.Proofs.YtklngdmpledgeaaGreat.Oc
open Go.RowKit

/-- Ahead of the one text, or behind it. -/
def TextI (w : World) (P : World → Prop) (k : Nat) (i : Int) (wx : World) : Prop := (k = 1 ∧ i = 0 ∧ wx = w) ∨ (k = 0 ∧ i = 1 ∧ P wx)
theorem WFr.at {b : Nat} {v v' : Value} {w w' : World} (h : WFr b v v' w w') {a : Nat} {o : Obj} (ha : w.heap[a]? = some o) (hb : a ≠ b) (hv : v.ownBlock ≠ some a) : w'.heap[a]? = some o :=
  (h.block a (Array.getElem?_eq_some_iff.1 ha).1 hb hv).trans ha
end Go.Proofs.YtklngdmpledgeaaGreat.Oc

namespace Go.Proofs.YtklngdmpledgeaaGreat.Oc
open Go.RowKit

/-- The slice v holds the bytes l. -/
def BAt (w : World) (v : Value) (l : List Int) : Prop :=
  ∃ A cap, v = .slice A l.length cap ∧ l.length ≤ cap ∧ (0 < l.length → ∃ g o, A = some ⟨g, o, none⟩ ∧ g < w.heap.size ∧ ∀ i, i < l.length → w.cell? ⟨g, o + i, none⟩ = some (.int .u8 (l.getD i 0)))
theorem BAt.of_own {w : World} {base : Nat} {v : Value} {l : List Int} (h : w.ownsRow base 5 1 v l.length (bv l)) : BAt w v l := by
  rcases h.2 with ⟨h1, h2⟩ | ⟨g, cap, cur, h1, _, h3, h4, _⟩
  · exact ⟨none, 0, by rw [h1, h2], by omega, fun h => by omega⟩
  · refine ⟨_, cap, h1, h4, fun _ => ⟨g, 0, rfl, (Array.getElem?_eq_some_iff.1 h3).1, fun i hi => ?_⟩⟩
    have := h.cells (g := g) (by rw [h1]; rfl) i _ (bv_getD hi)
    rw [show (Addr.mk g 0 none).add i = ⟨g, 0 + i, none⟩ by unfold Addr.add; split <;> simp_all] at this
    exact this
theorem BAt.kept {w w' : World} {v : Value} {l : List Int} (h : BAt w v l) (hb : Below w.heap.size w w') : BAt w' v l := by
  obtain ⟨A, cap, h1, h2, h3⟩ := h
  refine ⟨A, cap, h1, h2, fun hp => ?_⟩
  obtain ⟨g, o, h4, h5, h6⟩ := h3 hp
  exact ⟨g, o, h4, Nat.lt_of_lt_of_le h5 hb.size, fun i hi => (hb.cell (p := ⟨g, o + i, none⟩) h5).trans (h6 i hi)⟩

set_option maxRecDepth 100000 in
theorem clone_any (w : World) (v : Value) (l : List Int) (h : BAt w v l) (hl : l.length ≤ 2000000) :
    Calls Tryz.prog 18 #[v] w fun e w' => ∃ v', e = .returned v' ∧ w'.ownsRow w.heap.size 5 1 v' l.length (bv l) ∧ Below w.heap.size w w' := by
  obtain ⟨A, cap, rfl, _, hc⟩ := h
  obtain ⟨i0, hi0, hz0, hz1, hz2⟩ := info_parts u8Inf
  have q22 : ∀ (w : World) (a : Option Addr) (n c n' c' : Nat), (binOp .eql 22 (.slice a n c) (.slice none n' c')).run Tryz.prog w = .ok (.bool a.isNone) w := fun w a n c n' c' => Lib.run_eql_slice_nil w _ _ a n c n' c' Tryz.underlying22
  obtain ⟨n, hn⟩ : ∃ n, n = l.length := ⟨_, rfl⟩
  have HN := Lib.hid hn
  rw [← hn] at hc hl ⊢
  cases A with
  | none =>
    have h0 : l = [] := by
      cases l with
      | nil => rfl
      | cons x r => obtain ⟨g, o, h1, _⟩ := hc (by rw [hn]; simp); cases h1
    subst h0
    have HO : Hid (w.ownsRow w.heap.size 5 1 (.slice none 0 0) n (bv [])) := by
      show World.ownsRow _ _ _ _ _ _ _
      rw [hn]; exact World.ownsRow_nil _ _ _ _
    clear hn hc
    go_enter Tryz.func18, Tryz.ntmps18
    go_wp2
    go_ret
    exact ⟨_, rfl, HO.out, Below.refl _ _⟩
  | some a =>
    have HC : Hid (∀ j u, (bv l)[j]? = some u → (w.alloc (.cells #[] 5)).cell? (a.add j) = some u) := by
      intro j u hu
      have hj : j < n := by have := (List.getElem?_eq_some_iff.1 hu).1; rw [bv_len] at this; omega
      obtain ⟨g, o, h1, h2, h3⟩ := hc (by omega)
      cases h1
      rw [show (Addr.mk g o none).add j = ⟨g, o + j, none⟩ by unfold Addr.add; split <;> simp_all, bv_get hu]
      exact Lib.cell?_alloc_some _ (h3 j hj)
    clear hn hc
    go_enter Tryz.func18, Tryz.ntmps18
    go_wp2_with (at_builtin; refine wpList_append_own _ rfl _ _ 22 rfl w.heap.size 5 i0 (.int .u8 0) 1 1 Tryz.underlying22 hi0 hz0 hz1 hz2 rfl (by decide) _ _ _ rfl (World.ownsRow_made w #[] 0 (Nat.le_refl _) (Nat.zero_le _) rfl) a n cap (bv l) rfl (by rw [bv_len, HN.out]; omega) HC.out (bv_one _) (by unfold maxLen; omega) (by omega) (by simp) ?_; intro v' w1 hown hgrow hnil)
    go_ret
    exact ⟨v', rfl, by simpa using hown, ((Below.refl _ w).alloc (Nat.le_refl _) _).grown hgrow (by simp) (by intro k hk; have hk2 : w.heap.size = k := Option.some.inj hk; omega)⟩

set_option maxRecDepth 100000 in
theorem wdone_nil (w : World) : Calls Tryz.prog 55 #[.pointer none] w fun e w' => e = .returned (.tuple #[.slice none 0 0, .int .i64 10]) ∧ w = w' := by
  go_enter Tryz.func55, Tryz.ntmps55
  go_wp2
  go_ret2
  exact ⟨rfl, rfl⟩
set_option maxRecDepth 100000 in
set_option maxHeartbeats 4000000 in
theorem wdone_any (w : World) (b : Nat) (er : Int) (l : List Int) (v : Value) (h : WrR w b er l v) :
    Calls Tryz.prog 55 #[.pointer (some ⟨b, 0, none⟩)] w fun e w' => ∃ A cap, e = .returned (.tuple #[.slice A l.length cap, .int .i64 er]) ∧ w'.ownsRow w.heap.size 5 1 (.slice A l.length cap) l.length (bv l) ∧ Below w.heap.size w w' := by
  have HC := Lib.hid (clone_any w.drew v l ((BAt.of_own h.2.1).kept (Below.refl _ w).drew) (by have := h.2.2; omega))
  obtain ⟨⟨c1, c2⟩, _⟩ := block_cell2 h.1
  have hlt := h.lt
  have HW := Lib.hid h
  clear h
  go_enter Tryz.func55, Tryz.ntmps55
  go_wp2_with fail
  go_region_held3 (fun w' => w'.cell? ⟨b, 0, none⟩ = some (.int .i64 er) ∧ w'.cell? ⟨b, 1, none⟩ = some v)
    (first
      | (exact ⟨d1, d2⟩)
      | go_keep)
    (first
      | (go_at_call 18; refine HC.out.mono ?_; rintro e w1 ⟨v', rfl, ho1, hb1⟩
         obtain ⟨A1, n1, c1', rfl⟩ : ∃ A n c, v' = Value.slice A n c := by obtain ⟨A, c, h, _⟩ := BAt.of_own ho1; exact ⟨A, _, c, h⟩
         have d1 : w1.cell? ⟨b, 0, none⟩ = some (.int .i64 er) := (hb1.cell (p := ⟨b, 0, none⟩) hlt).trans c1
         have d2 : w1.cell? ⟨b, 1, none⟩ = some v := (hb1.cell (p := ⟨b, 1, none⟩) hlt).trans c2
         have O1 := Lib.hid ho1
         have B1 := Lib.hid hb1
         clear ho1 hb1))
  all_goals
    go_wp2
    go_ret2
    obtain ⟨A, c, h1, _⟩ := BAt.of_own O1.out
    cases h1
    exact ⟨_, _, rfl, O1.out, (Below.refl _ w).drew.trans B1.out⟩

set_option maxRecDepth 100000 in
/-- The reference's Same at equal bytes. -/
theorem same_eq (w : World) (u v : Value) (l : List Int) (hu : BAt w u l) (hv : BAt w v l) (hn : l.length ≤ 2000000) :
    Calls Tryz.prog 11 #[u, v] w fun e w' => e = .returned (.bool true) ∧ Below w.heap.size w w' := by
  obtain ⟨A, cap, rfl, k1, h1⟩ := hu
  obtain ⟨A', cap', rfl, k2, h2⟩ := hv
  obtain ⟨n, hn2⟩ : ∃ n, n = l.length := ⟨_, rfl⟩
  rw [← hn2] at h1 h2 hn k1 k2 ⊢
  have H1 := Lib.hid h1
  have H2 := Lib.hid h2
  have e0 : (0 : Int) ≤ (n : Int) := by omega
  clear h1 h2 hn2
  go_enter Tryz.func11, Tryz.ntmps11
  go_wp2
  go_loopg [5] n (fun (gh : Nat) s5 wx => ∃ i : Nat, gh = n - i ∧ i ≤ n ∧ s5 = .int .i64 (i : Int) ∧ Below w.heap.size w wx)
  case atStart => exact ⟨0, rfl, Nat.zero_le _, rfl, Below.refl _ _⟩
  case round =>
    obtain ⟨i, rfl, hi, rfl, hbel⟩ := hrel
    by_cases hlt : i < n
    · have t1 : (i : Int) < (n : Int) := by omega
      have t2 : (0 : Int) ≤ (i : Int) := by omega
      obtain ⟨g, o, rfl, lg, hc1⟩ := H1.out (by omega)
      obtain ⟨g', o', rfl, lg', hc3⟩ := H2.out (by omega)
      obtain ⟨r, hr⟩ : ∃ r, r = l.getD i 0 := ⟨_, rfl⟩
      have c1 : wr.cell? ⟨g, o + i, none⟩ = some (.int .u8 r) := by rw [hr]; exact (hbel.cell (p := ⟨g, o + i, none⟩) lg).trans (hc1 i hlt)
      have c3 : wr.cell? ⟨g', o' + i, none⟩ = some (.int .u8 r) := by rw [hr]; exact (hbel.cell (p := ⟨g', o' + i, none⟩) lg').trans (hc3 i hlt)
      have HB := Lib.hid hbel
      clear hbel hr hc1 hc3
      go_wp2_with fail
      go_quiet (fail)
      go_wp2
      go_roundg (n - (i + 1))
      case measure => omega
      case rel => exact ⟨i + 1, rfl, hlt, by go_num, ⟨HB.out.os, HB.out.tape, HB.out.output, HB.out.size, HB.out.block⟩⟩
    · have hil : i = n := by omega
      subst hil
      have t1 : decide ((i : Int) < (i : Int)) = false := by simp
      have HB := Lib.hid hbel
      clear hbel
      go_wp2
      go_ret
      exact ⟨rfl, HB.out⟩
end Go.Proofs.YtklngdmpledgeaaGreat.Oc

namespace Go.Proofs.YtklngdmpledgeaaGreat.Oc
open Go.RowKit

def bok (l : List Int) : Prop := ∀ x ∈ l, 0 ≤ x ∧ x < 256
/-- The slice v holds the bytes l, outside of the block b. -/
def BA (w : World) (b : Nat) (v : Value) (l : List Int) : Prop :=
  ∃ A cap, v = .slice A l.length cap ∧ l.length ≤ cap ∧ (0 < l.length → ∃ g o, A = some ⟨g, o, none⟩ ∧ g < w.heap.size ∧ g < b ∧ ∀ i, i < l.length → w.cell? ⟨g, o + i, none⟩ = some (.int .u8 (l.getD i 0)))
theorem BA.at {w : World} {b : Nat} {v : Value} {l : List Int} (h : BA w b v l) : BAt w v l := by
  obtain ⟨A, cap, h1, h2, h3⟩ := h
  refine ⟨A, cap, h1, h2, fun hp => ?_⟩
  obtain ⟨g, o, h4, h5, _, h6⟩ := h3 hp
  exact ⟨g, o, h4, h5, h6⟩
theorem cell_grown {w w' : World} {b g o : Nat} (h : w.grownBy w' (some b)) (hg : g < w.heap.size) (hne : g ≠ b) : w'.cell? ⟨g, o, none⟩ = w.cell? ⟨g, o, none⟩ := by
  simp only [World.cell?]; rw [h.block g hg (fun e => hne (Option.some.inj e))]
theorem BA.kept {w w' : World} {b : Nat} {v : Value} {l : List Int} (h : BA w b v l) (hg : w.grownBy w' (some b)) : BA w' b v l := by
  obtain ⟨A, cap, h1, h2, h3⟩ := h
  refine ⟨A, cap, h1, h2, fun hp => ?_⟩
  obtain ⟨g, o, h4, h5, hne, h6⟩ := h3 hp
  exact ⟨g, o, h4, Nat.lt_of_lt_of_le h5 hg.size, hne, fun i hi => (cell_grown hg h5 (by omega)).trans (h6 i hi)⟩
/-- The reader b has made the mistake er, and the bytes l are left. -/
def RdR (w : World) (b : Nat) (er : Int) (l : List Int) (v : Value) : Prop :=
  w.heap[b]? = some (.cells #[.int .i64 er, v] 144 (0, 0)) ∧ BA w b v l ∧ bok l ∧ l.length ≤ 2000000
def RdTo (b : Nat) (w : World) (er : Int) (l : List Int) (w' : World) : Prop := ∃ v, RdR w' b er l v ∧ w.grownBy w' (some b)
theorem RdR.lt {w : World} {b : Nat} {er : Int} {l : List Int} {v : Value} (h : RdR w b er l v) : b < w.heap.size := (Array.getElem?_eq_some_iff.1 h.1).1
theorem RdR.below {w w' : World} {b : Nat} {er : Int} {l : List Int} {v : Value} (h : RdR w b er l v) (hb : Below w.heap.size w w') : RdR w' b er l v :=
  ⟨block_kept h.1 hb, h.2.1.kept (grownBy_of_below _ hb), h.2.2⟩
/-- What lies behind the reader may be written. -/
theorem RdR.upto {w w' : World} {b : Nat} {er : Int} {l : List Int} {v : Value} (h : RdR w b er l v) (hk : ∀ k, k ≤ b → w'.heap[k]? = w.heap[k]?) : RdR w' b er l v := by
  obtain ⟨h1, ⟨A, cap, h2, h3, h4⟩, h5⟩ := h
  refine ⟨(hk b (Nat.le_refl _)).trans h1, ⟨A, cap, h2, h3, fun hp => ?_⟩, h5⟩
  obtain ⟨g, o, h6, h7, h8, h9⟩ := h4 hp
  have hg := hk g (by omega)
  refine ⟨g, o, h6, ?_, h8, fun i hi => ?_⟩
  · rcases Nat.lt_or_ge g w'.heap.size with h10 | h10
    · exact h10
    · rw [Array.getElem?_eq_none h10, Array.getElem?_eq_getElem h7] at hg; cases hg
  · have := h9 i hi
    simp only [World.cell?] at this ⊢
    rw [hg]; exact this
theorem RdTo.trans {b : Nat} {w w1 w2 : World} {er : Int} {l : List Int} (h : w.grownBy w1 (some b)) (k : RdTo b w1 er l w2) : RdTo b w er l w2 := by
  obtain ⟨v, h1, h2⟩ := k
  exact ⟨v, h1, grownBy_trans h h2⟩
theorem RdTo.same {b : Nat} {w w' : World} {er : Int} {l : List Int} {v : Value} (h : RdR w b er l v) (hb : Below w.heap.size w w') : RdTo b w er l w' := ⟨v, h.below hb, grownBy_of_below _ hb⟩
theorem RdR.shape {w : World} {b : Nat} {er : Int} {l : List Int} {v : Value} (h : RdR w b er l v) : ∃ A cap, v = .slice A l.length cap ∧ l.length ≤ cap := by
  obtain ⟨A, cap, h1, h2, _⟩ := h.2.1
  exact ⟨A, cap, h1, h2⟩
theorem rd_set1 {w : World} {b : Nat} {er : Int} {l : List Int} {v : Value} (h : RdR w b er l v) (x : Int) : RdR (w.setCell ⟨b, 0, none⟩ (.int .i64 x)) b x l v ∧ w.grownBy (w.setCell ⟨b, 0, none⟩ (.int .i64 x)) (some b) :=
  ⟨⟨block_set1 h.1 _, h.2.1.kept (grownBy_set w ⟨b, 0, none⟩ _), h.2.2⟩, grownBy_set w ⟨b, 0, none⟩ _⟩
theorem rd_set2 {w w0 : World} {b : Nat} {er : Int} {l l' : List Int} {v v' : Value} (h : RdR w b er l v) (h0 : BA w0 b v' l') (hg : w0.grownBy w (some b)) (hk : bok l') (hl : l'.length ≤ 2000000) : RdR (w.setCell ⟨b, 1, none⟩ v') b er l' v' ∧ w.grownBy (w.setCell ⟨b, 1, none⟩ v') (some b) :=
  ⟨⟨block_set2 h.1 _, (h0.kept hg).kept (grownBy_set w ⟨b, 1, none⟩ _), hk, hl⟩, grownBy_set w ⟨b, 1, none⟩ _⟩

set_option maxRecDepth 100000 in
/-- A new reader. -/
theorem read_any (w : World) (v : Value) (l : List Int) (h : BAt w v l) (hk : bok l) (hl : l.length ≤ 2000000) :
    Calls Tryz.prog 69 #[v] w fun e w' => ∃ b u, e = .returned (.pointer (some ⟨b, 0, none⟩)) ∧ w.heap.size ≤ b ∧ RdR w' b 0 l u ∧ Below w.heap.size w w' := by
  have HC := Lib.hid (clone_any w v l h hl)
  have HK : Hid (bok l ∧ l.length ≤ 2000000) := ⟨hk, hl⟩
  clear h hk hl
  go_enter Tryz.func69, Tryz.ntmps69
  go_wp2_with (go_at_call 18; refine HC.out.mono ?_; rintro e w1 ⟨u, rfl, ho, hb⟩; obtain ⟨A1, n1, c1, rfl⟩ : ∃ A n c, u = Value.slice A n c := (by obtain ⟨A, c, h, _⟩ := BAt.of_own ho; exact ⟨A, _, c, h⟩); have HO := Lib.hid ho; have HB := Lib.hid hb; clear ho hb)
  go_ret
  have hz := HB.out.size
  obtain ⟨u, hu⟩ : ∃ u, u = Value.slice A1 n1 c1 := ⟨_, rfl⟩
  rw [← hu] at HO ⊢
  have hba : BA (w1.alloc (.cells #[.int .i64 0, u] 144)) w1.heap.size u l := by
    obtain ⟨A, cap, h1, h2, h3⟩ := BAt.of_own HO.out
    refine ⟨A, cap, h1, h2, fun hp => ?_⟩
    obtain ⟨g, o, h4, h5, h6⟩ := h3 hp
    exact ⟨g, o, h4, by simp; omega, by omega, fun i hi => Lib.cell?_alloc_some _ (h6 i hi)⟩
  refine ⟨_, u, rfl, hz, ?_, HB.out.alloc hz _⟩
  exact ⟨block_new _ _, hba, HK.out.1, HK.out.2⟩

theorem slice_to (A : Option Addr) (n cap q : Nat) (h : q ≤ cap) : ∀ W : World, (Instr.slice 22 (.slice A n cap) none (some (.int .i64 (q : Int))) none).run Tryz.prog W = .ok (.slice A q cap) W := fun W => by
  cases A with
  | none => simp [Instr.slice, Instr.sliceBounds, Instr.sliceBound, asIntOf, run_underlying Tryz.underlying22, h]
  | some a =>
    obtain ⟨g, o, f⟩ := a
    simp [Instr.slice, Instr.sliceBounds, Instr.sliceBound, asIntOf, run_underlying Tryz.underlying22, h]
    try (unfold Addr.add; simp)
theorem slice_from (A : Option Addr) (n cap q : Nat) (h : q ≤ n) (h2 : n ≤ cap) : ∃ A' : Option Addr, (q < n → ∀ g o, A = some ⟨g, o, none⟩ → A' = some ⟨g, o + q, none⟩) ∧ ∀ W : World, (Instr.slice 22 (.slice A n cap) (some (.int .i64 (q : Int))) none none).run Tryz.prog W = .ok (.slice A' (n - q) (cap - q)) W := by
  obtain ⟨i0, hi0, hz0, hz1, hz2⟩ := info_parts u8Inf
  cases A with
  | none =>
    refine ⟨none, fun _ g o e => (by cases e), fun W => ?_⟩
    simp [Instr.slice, Instr.sliceBounds, Instr.sliceBound, asIntOf, run_underlying Tryz.underlying22, h]
  | some a =>
    by_cases hq : cap = q
    · refine ⟨some a, fun hlt => by omega, fun W => ?_⟩
      subst hq
      simp [Instr.slice, Instr.sliceBounds, Instr.sliceBound, asIntOf, run_underlying Tryz.underlying22, h, Go.sizeOf, typeInfo, hi0]
    · refine ⟨some (a.add q), fun _ g o e => ?_, fun W => ?_⟩
      · cases e
        unfold Addr.add; split <;> simp_all
      · simp [Instr.slice, Instr.sliceBounds, Instr.sliceBound, asIntOf, run_underlying Tryz.underlying22, h, Go.sizeOf, typeInfo, hi0, hz1, hq]

theorem bok_drop {l : List Int} (h : bok l) (n : Nat) : bok (l.drop n) := fun x hx => h x (List.mem_of_mem_drop hx)
theorem getD_drop (l : List Int) (n i : Nat) : (l.drop n).getD i 0 = l.getD (n + i) 0 := by simp [List.getD]
theorem getD_take {l : List Int} {n i : Nat} (h : i < n) : (l.take n).getD i 0 = l.getD i 0 := by simp [List.getD, h]
set_option maxRecDepth 100000 in
theorem cut_ok (w : World) (b : Nat) (er : Int) (l : List Int) (v : Value) (n : Nat) (h : RdR w b er l v) (hn : n ≤ l.length) :
    Calls Tryz.prog 110 #[.pointer (some ⟨b, 0, none⟩), .int .i64 (n : Int)] w fun e w' => ∃ u, e = .returned u ∧ BAt w' u (l.take n) ∧ RdTo b w er (l.drop n) w' := by
  obtain ⟨⟨c1, c2⟩, f1, f2⟩ := block_cell2 h.1
  obtain ⟨A, cap, rfl, hcap, hcell⟩ := h.2.1
  obtain ⟨m, hm⟩ : ∃ m, m = l.length := ⟨_, rfl⟩
  rw [← hm] at c2 hcap hn hcell
  have hs1 := slice_to A m cap n (by omega)
  obtain ⟨A', hA', hs2⟩ := slice_from A m cap n hn hcap
  have t1 : ¬ (m : Int) < (n : Int) := by omega
  have hl := h.2.2.2
  have hlt : (l.take n).length = n := by rw [List.length_take]; omega
  have hld : (l.drop n).length = m - n := by rw [List.length_drop, hm]
  have hb1 : BA w b (.slice A n cap) (l.take n) := by
    refine ⟨A, cap, by rw [hlt], by rw [hlt]; omega, fun hp => ?_⟩
    rw [hlt] at hp ⊢
    obtain ⟨g, o, h4, h5, h6, h7⟩ := hcell (by omega)
    exact ⟨g, o, h4, h5, h6, fun i hi => by rw [getD_take hi]; exact h7 i (by omega)⟩
  have hb2 : BA w b (.slice A' (m - n) (cap - n)) (l.drop n) := by
    refine ⟨A', cap - n, by rw [hld], by rw [hld]; omega, fun hp => ?_⟩
    rw [hld] at hp ⊢
    obtain ⟨g, o, h4, h5, h6, h7⟩ := hcell (by omega)
    refine ⟨g, o + n, hA' (by omega) g o h4, h5, h6, fun i hi => ?_⟩
    rw [getD_drop, Nat.add_assoc]
    exact h7 (n + i) (by omega)
  have HR : Hid (∀ w', w' = w.setCell ⟨b, 1, none⟩ (.slice A' (m - n) (cap - n)) → BAt w' (.slice A n cap) (l.take n) ∧ RdTo b w er (l.drop n) w') := fun w' e => by
    subst e
    have h8 := rd_set2 h hb2 (grownBy_refl _ _) (bok_drop h.2.2.1 n) (by rw [List.length_drop]; omega)
    exact ⟨(hb1.kept h8.2).at, _, h8.1, h8.2⟩
  clear h hb1 hb2 hcell hlt hld hm hA' hl
  go_enter Tryz.func110, Tryz.ntmps110
  go_wp2
  go_ret
  exact ⟨_, rfl, HR.out _ rfl⟩
set_option maxRecDepth 100000 in
theorem cut_end (w : World) (b : Nat) (l : List Int) (v : Value) (n : Nat) (h : RdR w b 0 l v) (hn : l.length < n) :
    Calls Tryz.prog 110 #[.pointer (some ⟨b, 0, none⟩), .int .i64 (n : Int)] w fun e w' => e = .returned (.slice none 0 0) ∧ RdTo b w 12 l w' := by
  obtain ⟨⟨c1, c2⟩, f1, f2⟩ := block_cell2 h.1
  obtain ⟨A, cap, rfl, hcap⟩ := h.shape
  have HF := Lib.hid (fail_set w b 12 c1 f1)
  have HR : Hid (RdTo b w 12 l (w.setCell ⟨b, 0, none⟩ (.int .i64 12))) := ⟨_, (rd_set1 h 12).1, (rd_set1 h 12).2⟩
  obtain ⟨m, hm⟩ : ∃ m, m = l.length := ⟨_, rfl⟩
  rw [← hm] at c2 hcap hn
  have t1 : (m : Int) < (n : Int) := by omega
  clear h hm
  go_enter Tryz.func110, Tryz.ntmps110
  go_wp2_with (go_at_call 92; refine HF.out.mono ?_; rintro e w1 ⟨rfl, rfl⟩)
  go_ret
  exact ⟨rfl, HR.out⟩

/-! ### Rest, Fail, Ok, Done -/
set_option maxRecDepth 100000 in
theorem rest_any (w : World) (b : Nat) (er : Int) (l : List Int) (v : Value) (h : RdR w b er l v) : Calls Tryz.prog 71 #[.pointer (some ⟨b, 0, none⟩)] w fun e w' => e = .returned (.int .i64 (l.length : Int)) ∧ w = w' := by
  obtain ⟨⟨c1, c2⟩, _⟩ := block_cell2 h.1
  obtain ⟨A, cap, rfl, _⟩ := h.shape
  clear h
  go_enter Tryz.func71, Tryz.ntmps71
  go_wp2
  go_ret
  exact ⟨rfl, rfl⟩
set_option maxRecDepth 100000 in
theorem rest_nil (w : World) : Calls Tryz.prog 71 #[.pointer none] w fun e w' => e = .returned (.int .i64 0) ∧ w = w' := by
  go_enter Tryz.func71, Tryz.ntmps71
  go_wp2
  go_ret
  exact ⟨rfl, rfl⟩
set_option maxRecDepth 100000 in
theorem ok_nil (w : World) : Calls Tryz.prog 72 #[.pointer none] w fun e w' => e = .returned (.bool true) ∧ w = w' := by
  go_enter Tryz.func72, Tryz.ntmps72
  go_wp2
  go_ret
  exact ⟨rfl, rfl⟩
/-- The mistake at the end. -/
def doneE (er : Int) (l : List Int) : Int := if er = 0 then (if l = [] then 0 else 3) else er
theorem doneE_yes {er : Int} (h : ¬ er = 0) (l : List Int) : doneE er l = er := by unfold doneE; rw [if_neg h]
end Go.Proofs.YtklngdmpledgeaaGreat.Oc
