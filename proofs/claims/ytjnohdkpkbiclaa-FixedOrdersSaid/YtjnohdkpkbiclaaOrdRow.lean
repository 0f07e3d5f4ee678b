/-
  PROVED: FixedOrders answers true for every two 64-bit numbers a and b and every two wide numbers x and y, and leaves its arguments as they were. Conditions: none beyond the parameters' own types.
-/
import Derived.Test.YtjnohdkpkbiclaaLawOrd
import Derived.Test.YtjnohdkpkbiclaaRows
import Derived.WalkKit
import Derived.ProofKit
import Derived.OpenShut
import Derived.ChangeOld
import Derived.Below
import Derived.Lib.SmallJoins
namespace Go.Proofs.Ytjnohdkpkbiclaa
open Go.ChangeShapes Go.WideShapes Go.ChangeAt Go.RowKit Go.Joins

theorem orders_own : ownKnob Try.prog.godebug = none := by kernel_rfl
theorem orders_cellsWide : Try.prog.cellsOf 38 = 2 := by kernel_rfl

set_option maxRecDepth 100000 in
theorem orders_lifted (os : Os) (started : os.Started) (H : Type) (enc : TypeId × Value → H) :
    ReturnsInHanded {} Try.checked os 5 .any (Rows.fixedOrdersSpec.pre6 enc Try.prog Try.f5 Rows.fixedOrdersRow.domain false) (Rows.fixedOrdersSpec.post enc Try.prog Try.f5 false true false false) := by
  refine returnsInHanded_of_change (C := Try.checked) orders_own started (by kernel_rfl) Try.func5
    (ChangeSpec.witness6 (enc := enc) (C := Try.checked) false ⟨#[], #[.int .i64 0, .int .i64 0, .agg #[.int .i64 0, .int .u64 0], .agg #[.int .i64 0, .int .u64 0]], []⟩ 8 (by kernel_rfl) (by kernel_rfl) (by kernel_rfl) (by kernel_rfl)) ?_
  intro W base args ds gs before hval0 hW hcnd _
  have hval : ∀ (j : Nat) t v, Try.f5.params[j]? = some t → args[j]? = some v → Value.okWide Try.prog W .any base t v := hval0
  have hW' := hW
  obtain ⟨p, q, hA0, hV, rfl, hfz, hnd⟩ := hW
  have hA : DataW.TrodAll enc Try.prog W 0 (fun _ => true) true Try.f5.params.toList args.toList ds p := hA0
  rw [Try.params5] at hA hval
  obtain ⟨v0, v1, v2, v3, d0, d1, d2, d3, p0, p1, p2, p3, rfl, rfl, rfl, h0, h1, h2, h3⟩ := trodAll_four hA
  obtain ⟨rfl, rfl⟩ := trodVars_none hV
  obtain ⟨a, rfl, rfl, rfl, wa⟩ := open_int Try.underlying2 (hval 0 2 v0 rfl rfl) h0
  obtain ⟨b, rfl, rfl, rfl, wb⟩ := open_int Try.underlying2 (hval 1 2 v1 rfl rfl) h1
  obtain ⟨c0, c1, y0, y1, m, rfl, rfl, rfl, hy0, hy1⟩ := open_agg2 Try.underlying38 (by kernel_rfl) orders_cellsWide (hval 2 38 v2 rfl rfl) h2
  obtain ⟨xh, e0, rfl, wxh⟩ := DataW.trod_int Try.underlying2 hy0
  obtain ⟨xl, e1, rfl, wxl⟩ := DataW.trod_int Try.underlying36 hy1
  simp at e0 e1
  subst e0 e1
  obtain ⟨c2, c3, y2, y3, m2, rfl, rfl, rfl, hy2, hy3⟩ := open_agg2 Try.underlying38 (by kernel_rfl) orders_cellsWide (hval 3 38 v3 rfl rfl) h3
  obtain ⟨yh, e2, rfl, wyh⟩ := DataW.trod_int Try.underlying2 hy2
  obtain ⟨yl, e3, rfl, wyl⟩ := DataW.trod_int Try.underlying36 hy3
  simp at e2 e3
  subst e2 e3
  clear hA0 hval0
  have structReads : ∀ (W' : World) (sp : Nat → Bool) (h l : Int), (Lit.int .i64 h).wf = true → (Lit.int .u64 l).wf = true → DataW.Trod enc Try.prog W' 0 sp true 38 (.agg #[.int .i64 h, .int .u64 l]) (.agg [.lit (.int .i64 h), .lit (.int .u64 l)]) [] := fun W' sp h l wh wl =>
    shut_agg2 (y0 := (.lit (.int .i64 h), [])) (y1 := (.lit (.int .u64 l), [])) Try.underlying38 (by kernel_rfl) orders_cellsWide ⟨1, by simp [DataW.trod, Try.underlying2, wh]⟩ ⟨1, by simp [DataW.trod, Try.underlying36, wl]⟩
  have ka := wa
  have kb := wb
  have kxh := wxh
  have kxl := wxl
  have kyh := wyh
  have kyl := wyl
  simp [Lit.wf, IntKind.min, IntKind.max, IntKind.signed, IntKind.bits] at ka kb kxh kxl kyh kyl
  refine (law_orders W a b xh xl yh yl (by omega) (by omega) (by omega) (by omega) ⟨by omega, by omega, by omega, by omega⟩ ⟨by omega, by omega, by omega, by omega⟩).mono fun e W' ⟨he, bel⟩ => ?_
  subst he
  exact ⟨_, rfl, _, _, _, [], _, [], hW', trodAll_mk1 (shut_bool Try.underlying4 _), (trodAll_cons_mk (shut_int Try.underlying2 wa) (trodAll_cons_mk (shut_int Try.underlying2 wb) (trodAll_cons_mk (structReads _ _ _ _ wxh wxl) (trodAll_cons_mk (structReads _ _ _ _ wyh wyl) trodAll_mk0)))), rfl, bel.frame _, fun h => by cases h⟩

/-- The given statement. -/
theorem fixedOrders_holds : Rows.FixedOrdersSaid :=
  OpenClaim.holds_of_wide 5 Try.f5 rfl rfl rfl rfl rfl rfl rfl ⟨rfl, rfl, rfl, rfl, rfl⟩ rfl rfl rfl rfl rfl (by kernel_rfl) Try.func5 (by kernel_rfl)
    (of_decide_eq_true (by kernel_rfl)) (by unfold Func.isWrapper; first | (rw [if_pos (by decide +kernel)]; kernel_rfl) | (rw [if_neg (by decide +kernel)]; exact ⟨rfl, rfl⟩))
    (fun os started H enc _ => orders_lifted os started H enc)
#print axioms fixedOrders_holds
end Go.Proofs.Ytjnohdkpkbiclaa
