/-
  The contract of the reference's Same at equal rows. Conditions: at most a thousand rows.
-/
import Derived.Test.YtflhpijcfiamgaaTRef
import Derived.BigQuiet
namespace Go.Proofs.Ytflhpijcfiamgaa.Tb.Rf
open Go.RowKit
open Ii (cells cells_len cells_get cells_one cells_append cells_cons cells_inv getL)

set_option maxRecDepth 100000 in
set_option maxHeartbeats 4000000 in
theorem same_eq (w : World) (b1 b2 : Nat) (u v : Value) (l : List R) (hu : w.ownsRow b1 53 2 u l.length (cells l)) (hv : w.ownsRow b2 53 2 v l.length (cells l)) (hn : l.length ≤ 1000) :
    Calls Try.prog 19 #[u, v] w fun e w' => e = .returned (.bool true) ∧ Below w.heap.size w w' := by
  by_cases hl : l = []
  · subst hl
    rcases Go.Joins.ownsRow_forms hu with ⟨rfl, _⟩ | ⟨g, cap, rfl⟩ <;> rcases Go.Joins.ownsRow_forms hv with ⟨rfl, _⟩ | ⟨g', cap', rfl⟩ <;> clear hu hv
    all_goals (
      go_enter Try.func19, Try.ntmps19
      go_wp2
      refine wp_loop_rounds 1 ?_
      rw [rounds_succ]
      go_wp2
      go_ret
      exact ⟨rfl, Below.refl _ _⟩)
  · have hpos : 0 < l.length := List.length_pos_iff.2 hl
    obtain ⟨g, cap, rfl⟩ := Go.Joins.ownsRow_form hu (by omega)
    obtain ⟨g', cap', rfl⟩ := Go.Joins.ownsRow_form hv (by omega)
    have HU := Lib.hid hu
    have HV := Lib.hid hv
    have e0 : (0 : Int) ≤ (l.length : Int) := by omega
    have lg := (hu.lt g rfl).2
    have lg' := (hv.lt g' rfl).2
    clear hu hv hl hpos
    go_enter Try.func19, Try.ntmps19
    go_wp2
    go_loopg [5] l.length (fun (gh : Nat) s5 wx => ∃ i : Nat, gh = l.length - i ∧ i ≤ l.length ∧ s5 = .int .i64 (i : Int) ∧ Below w.heap.size w wx)
    case atStart => exact ⟨0, rfl, Nat.zero_le _, rfl, Below.refl _ _⟩
    case round =>
      obtain ⟨i, rfl, hi, rfl, hbel⟩ := hrel
      by_cases hlt : i < l.length
      · have t1 : (i : Int) < (l.length : Int) := by omega
        have t2 : (0 : Int) ≤ (i : Int) := by omega
        obtain ⟨r, hr⟩ : ∃ r, l[i]? = some r := ⟨_, List.getElem?_eq_getElem hlt⟩
        have hcg := cells_get l i r hr
        have bb := bcell hbel
        have c1 : wr.cell? ⟨g, i * 2, none⟩ = some (.int .i64 r.1) := (bb.1 g _ lg).trans ((HU.out.cellAt (i * 2) (by omega)).trans hcg.1)
        have c2 : wr.cell? ⟨g, i * 2 + 1, none⟩ = some (.int .i64 r.2) := (bb.1 g _ lg).trans ((HU.out.cellAt (i * 2 + 1) (by omega)).trans hcg.2)
        have c3 : wr.cell? ⟨g', i * 2, none⟩ = some (.int .i64 r.1) := (bb.1 g' _ lg').trans ((HV.out.cellAt (i * 2) (by omega)).trans hcg.1)
        have c4 : wr.cell? ⟨g', i * 2 + 1, none⟩ = some (.int .i64 r.2) := (bb.1 g' _ lg').trans ((HV.out.cellAt (i * 2 + 1) (by omega)).trans hcg.2)
        have HB := Lib.hid hbel
        clear hcg bb hbel hr
        go_wp2_with fail
        go_quiet (fail)
        go_wp2
        go_roundg (l.length - (i + 1))
        case measure => omega
        case rel => exact ⟨i + 1, rfl, hlt, by go_num, by first | exact HB.out | exact below_drewN HB.out _ | exact HB.out.drew⟩
      · have hil : i = l.length := by omega
        subst hil
        have t1 : decide ((l.length : Int) < (l.length : Int)) = false := by simp
        have HB := Lib.hid hbel
        clear hbel
        go_wp2
        go_ret
        exact ⟨rfl, HB.out⟩
end Go.Proofs.Ytflhpijcfiamgaa.Tb.Rf
