/-
  PROVED: OctetWrites answers true for all parts, and leaves its arguments as they were. Conditions: none beyond the parameters' own types.
-/
import Derived.Test.YtmicmldhjmadcaaOLawWri
import Derived.ProofKit
import Derived.OpenShut
import Derived.ChangeOld
import Derived.Lib.SmallJoins
import Derived.ChangeMaps5
namespace Go.Proofs.Ytmicmldhjmadcaa
open Go.ChangeShapes Go.WideShapes Go.ChangeAt Go.RowKit Go.Joins Go.Deep

theorem wri_own : ownKnob Try.prog.godebug = none := by kernel_rfl
theorem wri_laidOut : laidOutB Try.prog = true := by kernel_rfl
theorem part_cellsOf : Try.prog.cellsOf 32 = 5 := by kernel_rfl
theorem add_twice (a : Addr) (i j : Nat) : (a.add i).add j = a.add (i + j) := by
  unfold Addr.add; split <;> split <;> simp_all <;> omega
/-- The parts that came in. -/
def PartsRow (w : World) (a : Option Addr) (len cap : Nat) : Prop :=
  (a = none ∧ len = 0 ∧ cap = 0) ∨
  ∃ x, a = some x ∧ len ≤ cap ∧ ∀ i, i < cap → ∃ p : Oc.Pt, p.ok ∧ (w.cell? (x.add (i * 5)) = some (.int .i64 p.k) ∧ w.cell? (x.add (i * 5 + 1)) = some (.int .i64 p.n)) ∧ w.cell? (x.add (i * 5 + 2)) = some (.int .u64 (p.lo : Int)) ∧ w.cell? (x.add (i * 5 + 3)) = some (.string p.s) ∧ w.cell? (x.add (i * 5 + 4)) = some (.int .i64 p.m)
theorem parts_list {Q : Nat → Oc.Pt → Prop} (m : Nat) (h : ∀ i, i < m → ∃ p, Q i p) : ∃ ps : List Oc.Pt, ps.length = m ∧ ∀ i p, ps[i]? = some p → Q i p := by
  induction m with
  | zero => exact ⟨[], rfl, fun i p hp => by simp at hp⟩
  | succ m ih =>
    obtain ⟨ps, h1, h2⟩ := ih (fun i hi => h i (by omega))
    obtain ⟨p, hp⟩ := h m (by omega)
    refine ⟨ps ++ [p], by simp [h1], fun i q hq => ?_⟩
    rcases Nat.lt_or_ge i ps.length with hi | hi
    · rw [List.getElem?_append_left hi] at hq
      exact h2 i q hq
    · rw [List.getElem?_append_right hi] at hq
      have hi0 : i - ps.length = 0 := by
        rcases Nat.eq_zero_or_pos (i - ps.length) with h0 | h0
        · exact h0
        · rw [List.getElem?_eq_none (by simp; omega)] at hq; cases hq
      rw [hi0] at hq
      have hqp : p = q := by simpa using hq
      subst hqp
      have : i = m := by omega
      subst this
      exact hp
theorem law_writes_in (w : World) (A : Option Addr) (len cap : Nat) (h : PartsRow w A len cap) :
    Calls Try.prog 3 #[.slice A len cap] w fun e w' => e = .returned (.bool true) ∧ Below w.heap.size w w' := by
  rcases h with ⟨rfl, rfl, rfl⟩ | ⟨x, rfl, hl, hcell⟩
  · exact Oc.law_writes w none 0 0 0 [] (by omega) (Nat.le_refl _) rfl ⟨fun p hp => absurd hp (List.not_mem_nil), fun h => absurd h (by decide)⟩
  · obtain ⟨ps, h1, h2⟩ := parts_list (min len 40) (fun i hi => hcell i (by omega))
    refine Oc.law_writes w (some x) len cap (min len 40) ps (by omega) (by omega) h1 ⟨fun p hp => ?_, fun hp => ?_⟩
    · obtain ⟨i, hi⟩ := List.mem_iff_getElem?.1 hp
      exact (h2 i p hi).1
    · obtain ⟨b, off, spot⟩ := x
      obtain ⟨p0, _, ⟨hc, _⟩, _⟩ := hcell 0 (by omega)
      have hspot : spot = none := by simpa [Addr.add] using World.cell?_spot hc
      subst hspot
      have ea : ∀ j, (Addr.mk b off none).add j = ⟨b, off + j, none⟩ := fun j => by cases j <;> simp [Addr.add]
      refine ⟨b, off, rfl, ?_, fun i p hi => ?_⟩
      · have := World.block_lt_of_cell? _ _ hc
        simpa [Addr.add] using this
      · obtain ⟨_, ⟨g0, g1⟩, g2, g3, g4⟩ := h2 i p hi
        rw [ea] at g0 g1 g2 g3 g4
        exact ⟨⟨g0, g1⟩, g2, g3, g4⟩

set_option maxRecDepth 100000 in
theorem open_parts {H : Type} {enc : TypeId × Value → H} {w : World} {base : Nat} {spare : Nat → Bool} {held : Bool} {f0 f1 f2 f3 f4 : Field} {fuel : Nat} {cs : List Value} {x : DataW H × List MemPlace} (he : Try.prog.underlying 32 = some (.struct #[f0, f1, f2, f3, f4]))
    (o0 : f0.offset = 0) (o1 : f1.offset = 1) (o2 : f2.offset = 2) (o3 : f3.offset = 3) (o4 : f4.offset = 4) (t0 : f0.type = 3) (t1 : f1.type = 2) (t2 : f2.type = 30) (t3 : f3.type = 9) (t4 : f4.type = 3) (hspare : ∀ b, spare b = true)
    (h : DataW.trod enc Try.prog w base spare held fuel 22 cs = some x) : ∃ a len cap, cs = [.slice a len cap] ∧ PartsRow w a len cap := by
  have ci : Try.prog.cellsOf 3 = 1 := by kernel_rfl
  have cj : Try.prog.cellsOf 2 = 1 := by kernel_rfl
  have cu : Try.prog.cellsOf 30 = 1 := by kernel_rfl
  have ct : Try.prog.cellsOf 9 = 1 := by kernel_rfl
  rcases open_slice Try.underlying22 h with h0 | ⟨a, len, cap, m, n, D, Pl, rfl, hb, hl, hm, hmm, rfl, hx⟩
  · exact ⟨none, 0, 0, h0.1, .inl ⟨rfl, rfl, rfl⟩⟩
  · refine ⟨_, _, _, rfl, .inr ⟨a, rfl, hl, fun i hi => ?_⟩⟩
    rw [hspare, if_pos rfl] at hmm
    obtain ⟨cs', h1, h2⟩ := hx i (by omega)
    rw [part_cellsOf] at h1
    obtain ⟨_, hlen, hcell⟩ := World.cells?_some h1
    obtain ⟨xs, k, hk, hxy, _, hxl, hf⟩ := DataW.trod_struct he h2
    match xs, hxl, cs', hlen with
    | [y0, y1, y2, y3, y4], _, [v0, v1, v2, v3, v4], _ =>
      have g0 := hf 0 f0 rfl
      have g1 := hf 1 f1 rfl
      have g2 := hf 2 f2 rfl
      have g3 := hf 3 f3 rfl
      have g4 := hf 4 f4 rfl
      simp [o0, o1, o2, o3, o4, t0, t1, t2, t3, t4, ci, cj, cu, ct] at g0 g1 g2 g3 g4
      have e0 := hcell 0 (by omega)
      have e1 := hcell 1 (by omega)
      have e2 := hcell 2 (by omega)
      have e3 := hcell 3 (by omega)
      have e4 := hcell 4 (by omega)
      rw [add_twice] at e0 e1 e2 e3 e4
      obtain ⟨z0, q0, _, _⟩ := DataW.trod_int Try.underlying3 g0
      obtain ⟨z1, q1, _, w1⟩ := DataW.trod_int Try.underlying2 g1
      obtain ⟨z2, q2, _, w2⟩ := DataW.trod_int Try.underlying30 g2
      obtain ⟨z3, q3, _, _⟩ := DataW.trod_string Try.underlying9 g3
      obtain ⟨z4, q4, _, _⟩ := DataW.trod_int Try.underlying3 g4
      simp at q0 q1 q2 q3 q4
      subst q0 q1 q2 q3 q4
      simp [Lit.wf, IntKind.min, IntKind.max, IntKind.signed, IntKind.bits] at w1 w2
      have hz2 : ((z2.toNat : Nat) : Int) = z2 := Int.toNat_of_nonneg (by omega)
      exact ⟨⟨z0, z1, z2.toNat, z3, z4⟩, ⟨⟨by show _ ≤ z1; omega, by show z1 < _; omega⟩, by show z2.toNat < _; omega⟩, ⟨by simpa using e0, by simpa using e1⟩, by show _ = some (Value.int .u64 ((z2.toNat : Nat) : Int)); rw [hz2]; simpa using e2, by simpa using e3, by simpa using e4⟩

set_option maxRecDepth 100000 in
theorem wri_lifted (os : Os) (started : os.Started) (H : Type) (enc : TypeId × Value → H) :
    ReturnsInHanded {} Try.checked os 3 .any (Rows.octetWritesSpec.pre6 enc Try.prog Try.f3 Rows.octetWritesRow.domain false) (Rows.octetWritesSpec.post enc Try.prog Try.f3 false true false false) := by
  refine returnsInHanded_of_change (C := Try.checked) wri_own started (by kernel_rfl) Try.func3
    (ChangeSpec.witness6 (enc := enc) (C := Try.checked) false ⟨#[], #[.slice none 0 0], []⟩ 8 (by kernel_rfl) (by kernel_rfl) (by kernel_rfl) (by kernel_rfl)) ?_
  intro W base args ds gs before hval0 hW hcnd _
  have hval : ∀ (j : Nat) t v, Try.f3.params[j]? = some t → args[j]? = some v → Value.okWide Try.prog W .any base t v := hval0
  have hW' := hW
  obtain ⟨p, q, hA0, hV, rfl, hfz, hnd⟩ := hW
  have hA : DataW.TrodAll enc Try.prog W 0 (fun _ => true) true Try.f3.params.toList args.toList ds p := hA0
  rw [Try.params3] at hA hval
  obtain ⟨v0, d0, rfl, rfl, h0⟩ := trodAll_one hA
  obtain ⟨rfl, rfl⟩ := trodVars_none hV
  have k0 := h0
  have lt0 : ∀ x ∈ p, x.block < W.heap.size := by obtain ⟨m, hm⟩ := k0; exact DataW.trod_lt m _ _ _ hm
  obtain ⟨A, len, cap, rfl⟩ := okWide_slice Try.underlying22 (hval 0 22 v0 rfl rfl)
  have w2 : PartsRow W A len cap := by
    obtain ⟨fuel, hf⟩ := h0
    obtain ⟨a, l, c, hcs, hw⟩ := open_parts Try.underlying32 rfl rfl rfl rfl rfl rfl rfl rfl rfl rfl (fun _ => rfl) hf
    simp [Value.cells] at hcs
    obtain ⟨rfl, rfl, rfl⟩ := hcs
    exact hw
  clear hA0 hval0
  refine (law_writes_in W A len cap w2).mono fun e W' ⟨he, bel⟩ => ?_
  subst he
  exact ⟨_, rfl, _, _, _, [], _, [], hW', trodAll_mk1 (shut_bool Try.underlying4 _), (trodAll_cons_mk (Below.trod wri_laidOut (by kernel_rfl) (of_decide_eq_true (by kernel_rfl)) k0 bel lt0) trodAll_mk0), rfl, bel.frame _, fun h => by cases h⟩

/-- The given statement. -/
theorem octetWrites_holds : Rows.OctetWritesSaid :=
  OpenClaim.holds_of_wide 3 Try.f3 rfl rfl rfl rfl rfl rfl rfl ⟨rfl, rfl, rfl, rfl, rfl⟩ rfl rfl rfl rfl rfl (by kernel_rfl) Try.func3 (by kernel_rfl)
    (of_decide_eq_true (by kernel_rfl)) (by unfold Func.isWrapper; first | (rw [if_pos (by decide +kernel)]; kernel_rfl) | (rw [if_neg (by decide +kernel)]; exact ⟨rfl, rfl⟩))
    (fun os started H enc _ => wri_lifted os started H enc)
#print axioms octetWrites_holds
end Go.Proofs.Ytmicmldhjmadcaa
