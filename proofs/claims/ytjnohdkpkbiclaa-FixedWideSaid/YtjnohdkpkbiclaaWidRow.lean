/-
  PROVED: FixedWide answers true for every two 128-bit numbers and every slice of 128-bit numbers, and leaves its arguments as they were. Conditions: none beyond the parameters' own types.
-/
import Derived.Test.YtjnohdkpkbiclaaLawWid
import Derived.Test.YtjnohdkpkbiclaaRows
import Derived.WalkKit
import Derived.ProofKit
import Derived.OpenShut
import Derived.ChangeOld
import Derived.Below
import Derived.Lib.SmallJoins
import Derived.Deep.SlicePairs
namespace Go.Proofs.Ytjnohdkpkbiclaa
open Go.ChangeShapes Go.WideShapes Go.ChangeAt Go.RowKit Go.Joins Go.Deep

theorem wid_own : ownKnob Try.prog.godebug = none := by kernel_rfl
theorem wid_laidOut : laidOutB Try.prog = true := by kernel_rfl
theorem wid_cells : Try.prog.cellsOf 38 = 2 := by kernel_rfl

theorem wide_wf {h l : Int} (k : (Lit.int .i64 h).wf = true) (k' : (Lit.int .u64 l).wf = true) : WOk h l := by
  simp [Lit.wf, IntKind.min, IntKind.max, IntKind.signed, IntKind.bits] at k k'
  exact ⟨by omega, by omega, by omega, by omega⟩

/-- What is told of the slice that came in: nil, or a row of pairs. -/
def PairsIn (w : World) (a : Option Addr) (len cap : Nat) : Prop :=
  (a = none ∧ len = 0 ∧ cap = 0) ∨
  ∃ x, a = some x ∧ len ≤ cap ∧ ∃ f : Nat → Int × Int, ∀ i, i < cap → w.cell? (x.add (i * 2)) = some (.int .i64 (f i).1) ∧ w.cell? (x.add (i * 2 + 1)) = some (.int .u64 (f i).2) ∧ WOk (f i).1 (f i).2

theorem pairs_of_in {w : World} {a : Option Addr} {len cap : Nat} (h : PairsIn w a len cap) : ∃ (n : Nat) (ps : List (Int × Int)), min (len : Int) 30 = (n : Int) ∧ n ≤ cap ∧ n ≤ 30 ∧ Pairs w a n ps := by
  rcases h with ⟨rfl, rfl, rfl⟩ | ⟨x, rfl, hl, f, hf⟩
  · exact ⟨0, [], by decide, Nat.le_refl _, by omega, rfl, fun k => ⟨by simp, by simp, by simp, by simp⟩, fun h => absurd h (by omega)⟩
  · have hget : ∀ i, i < min len 30 → (((List.range (min len 30)).map f).getD i (0, 0)) = f i := fun i hi => by
      rw [List.getD_eq_getElem?_getD, List.getElem?_map, List.getElem?_range hi]; rfl
    refine ⟨min len 30, (List.range (min len 30)).map f, by omega, by omega, by omega, by simp, fun k => ?_, fun h0 => ?_⟩
    · by_cases hk : k < min len 30
      · rw [hget k hk]; exact (hf k (by omega)).2.2
      · rw [List.getD_eq_getElem?_getD, List.getElem?_eq_none (by simp; omega)]
        exact ⟨by simp, by simp, by simp, by simp⟩
    · obtain ⟨b, off, spot⟩ := x
      have hc := (hf 0 (by omega)).1
      have hspot : spot = none := by simpa [Addr.add] using World.cell?_spot hc
      subst hspot
      refine ⟨b, off, rfl, ?_, fun i hi => ?_⟩
      · have := World.block_lt_of_cell? _ _ hc
        simpa [Addr.add] using this
      · obtain ⟨g0, g1, _⟩ := hf i (by omega)
        have ea : ∀ j, (Addr.mk b off none).add j = ⟨b, off + j, none⟩ := fun j => by cases j <;> simp [Addr.add]
        rw [ea] at g0 g1
        rw [hget i hi]
        exact ⟨g0, g1⟩

theorem law_wide (w : World) (a b c d : Int) (A : Option Addr) (len cap : Nat) (k : WOk a b) (k' : WOk c d) (h : PairsIn w A len cap) :
    Calls Try.prog 4 #[.agg #[.int .i64 a, .int .u64 b], .agg #[.int .i64 c, .int .u64 d], .slice A len cap] w fun e w' => e = .returned (.bool true) ∧ Below w.heap.size w w' := by
  obtain ⟨n, ys, h1, h2, h3, h4⟩ := pairs_of_in h
  exact wide_walk w a b c d A len cap n ys k k' h1 h2 h3 h4

set_option maxRecDepth 100000 in
theorem wide_lifted (os : Os) (started : os.Started) (H : Type) (enc : TypeId × Value → H) :
    ReturnsInHanded {} Try.checked os 4 .any (Rows.fixedWideSpec.pre6 enc Try.prog Try.f4 Rows.fixedWideRow.domain false) (Rows.fixedWideSpec.post enc Try.prog Try.f4 false true false false) := by
  refine returnsInHanded_of_change (C := Try.checked) wid_own started (by kernel_rfl) Try.func4
    (ChangeSpec.witness6 (enc := enc) (C := Try.checked) false ⟨#[], #[.agg #[.int .i64 0, .int .u64 0], .agg #[.int .i64 0, .int .u64 0], .slice none 0 0], []⟩ 8 (by kernel_rfl) (by kernel_rfl) (by kernel_rfl) (by kernel_rfl)) ?_
  intro W base args ds gs before hval0 hW hcnd _
  have hval : ∀ (j : Nat) t v, Try.f4.params[j]? = some t → args[j]? = some v → Value.okWide Try.prog W .any base t v := hval0
  have hW' := hW
  obtain ⟨p, q, hA0, hV, rfl, hfz, hnd⟩ := hW
  have hA : DataW.TrodAll enc Try.prog W 0 (fun _ => true) true Try.f4.params.toList args.toList ds p := hA0
  rw [Try.params4] at hA hval
  obtain ⟨v0, v1, v2, d0, d1, d2, p0, p1, p2, rfl, rfl, rfl, h0, h1, h2⟩ := trodAll_three hA
  obtain ⟨rfl, rfl⟩ := trodVars_none hV
  have k0 := h0
  have k1 := h1
  have k2 := h2
  have lt0 : ∀ x ∈ p0, x.block < W.heap.size := by obtain ⟨m, hm⟩ := k0; exact DataW.trod_lt m _ _ _ hm
  have lt1 : ∀ x ∈ p1, x.block < W.heap.size := by obtain ⟨m, hm⟩ := k1; exact DataW.trod_lt m _ _ _ hm
  have lt2 : ∀ x ∈ p2, x.block < W.heap.size := by obtain ⟨m, hm⟩ := k2; exact DataW.trod_lt m _ _ _ hm
  obtain ⟨c0, c1, y0, y1, m, rfl, e5, e6, hy0, hy1⟩ := open_agg2 Try.underlying38 (by kernel_rfl) wid_cells (hval 0 38 v0 rfl rfl) h0
  obtain ⟨xh, e0, rfl, wxh⟩ := DataW.trod_int Try.underlying2 hy0
  obtain ⟨xl, e1, rfl, wxl⟩ := DataW.trod_int Try.underlying36 hy1
  simp at e0 e1
  subst e0 e1
  obtain ⟨c2, c3, y2, y3, m2, rfl, e7, e8, hy2, hy3⟩ := open_agg2 Try.underlying38 (by kernel_rfl) wid_cells (hval 1 38 v1 rfl rfl) h1
  obtain ⟨yh, e2, rfl, wyh⟩ := DataW.trod_int Try.underlying2 hy2
  obtain ⟨yl, e3, rfl, wyl⟩ := DataW.trod_int Try.underlying36 hy3
  simp at e2 e3
  subst e2 e3
  obtain ⟨A, len, cap, rfl⟩ := okWide_slice Try.underlying39 (hval 2 39 v2 rfl rfl)
  have w2 : PairsIn W A len cap := by
    obtain ⟨fuel, hf⟩ := h2
    rcases open_slice_pairs Try.underlying39 Try.underlying38 wid_cells rfl rfl (by kernel_rfl) (by kernel_rfl) hf with ⟨hcs, _⟩ | ⟨x, l, c, m, n, V0, V1, D0, D1, P0, P1, hcs, _, hl, _, hm, _, hcell⟩
    · simp [Value.cells] at hcs
      obtain ⟨rfl, rfl, rfl⟩ := hcs
      exact .inl ⟨rfl, rfl, rfl⟩
    · simp [Value.cells] at hcs
      obtain ⟨rfl, rfl, rfl⟩ := hcs
      simp only [if_true] at hm
      refine .inr ⟨x, rfl, hl, ?_⟩
      have each : ∀ i, ∃ z : Int × Int, i < cap → W.cell? (x.add (i * 2)) = some (.int .i64 z.1) ∧ W.cell? (x.add (i * 2 + 1)) = some (.int .u64 z.2) ∧ WOk z.1 z.2 := by
        intro i
        by_cases hi : i < cap
        · obtain ⟨g0, g1, t0, t1⟩ := hcell i (by omega)
          obtain ⟨zh, f0, _, wzh⟩ := DataW.trod_int Try.underlying2 t0
          obtain ⟨zl, f1, _, wzl⟩ := DataW.trod_int Try.underlying36 t1
          simp at f0 f1
          exact ⟨(zh, zl), fun _ => ⟨by rw [g0, f0], by rw [g1, f1], wide_wf wzh wzl⟩⟩
        · exact ⟨(0, 0), fun h => absurd h hi⟩
      exact ⟨fun i => (each i).choose, fun i hi => (each i).choose_spec hi⟩
  clear hA0 hval0
  refine (law_wide W xh xl yh yl A len cap (wide_wf wxh wxl) (wide_wf wyh wyl) w2).mono fun e W' ⟨he, bel⟩ => ?_
  subst he
  exact ⟨_, rfl, _, _, _, [], _, [], hW', trodAll_mk1 (shut_bool Try.underlying4 _), (trodAll_cons_mk (Below.trod wid_laidOut (by kernel_rfl) (of_decide_eq_true (by kernel_rfl)) k0 bel lt0) (trodAll_cons_mk (Below.trod wid_laidOut (by kernel_rfl) (of_decide_eq_true (by kernel_rfl)) k1 bel lt1) (trodAll_cons_mk (Below.trod wid_laidOut (by kernel_rfl) (of_decide_eq_true (by kernel_rfl)) k2 bel lt2) trodAll_mk0))), rfl, bel.frame _, fun h => by cases h⟩

/-- The given statement. -/
theorem fixedWide_holds : Rows.FixedWideSaid :=
  OpenClaim.holds_of_wide 4 Try.f4 rfl rfl rfl rfl rfl rfl rfl ⟨rfl, rfl, rfl, rfl, rfl⟩ rfl rfl rfl rfl rfl (by kernel_rfl) Try.func4 (by kernel_rfl)
    (of_decide_eq_true (by kernel_rfl)) (by unfold Func.isWrapper; first | (rw [if_pos (by decide +kernel)]; kernel_rfl) | (rw [if_neg (by decide +kernel)]; exact ⟨rfl, rfl⟩))
    (fun os started H enc _ => wide_lifted os started H enc)
#print axioms fixedWide_holds
end Go.Proofs.Ytjnohdkpkbiclaa
