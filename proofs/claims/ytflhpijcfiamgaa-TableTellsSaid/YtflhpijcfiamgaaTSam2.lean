/-
  The contract of the reference's Same at equal rows that are only read, and that of its From. Conditions: at most a thousand rows.
-/
import Derived.Test.YtflhpijcfiamgaaTSame
import Derived.Test.YtflhpijcfiamgaaTRpuu
import Derived.BigQuiet
namespace Go.Proofs.Ytflhpijcfiamgaa.Tb.Rf
open Go.RowKit
open Ii (cells cells_len cells_get cells_one cells_append cells_cons cells_inv getL)

/-- The slice v reads as the reference's rows l. -/
def RdR (w : World) (v : Value) (l : List R) : Prop :=
  ∃ A cap, v = .slice A l.length cap ∧ (0 < l.length → ∃ g o, A = some ⟨g, o, none⟩ ∧ g < w.heap.size ∧ ∀ i r, l[i]? = some r → w.cell? ⟨g, o + i * 2, none⟩ = some (.int .i64 r.1) ∧ w.cell? ⟨g, o + i * 2 + 1, none⟩ = some (.int .i64 r.2))
theorem RdR.below {w w' : World} {v : Value} {l : List R} (h : RdR w v l) (hb : Below w.heap.size w w') : RdR w' v l := by
  obtain ⟨A, cap, rfl, h2⟩ := h
  refine ⟨A, cap, rfl, fun h0 => ?_⟩
  obtain ⟨g, o, rfl, hg, hc⟩ := h2 h0
  exact ⟨g, o, rfl, Nat.lt_of_lt_of_le hg hb.size, fun i r hr => ⟨(hb.cell (p := ⟨g, o + i * 2, none⟩) hg).trans (hc i r hr).1, (hb.cell (p := ⟨g, o + i * 2 + 1, none⟩) hg).trans (hc i r hr).2⟩⟩
theorem RdR.of_own {w : World} {base : Nat} {v : Value} {l : List R} (h : w.ownsRow base 53 2 v l.length (cells l)) : RdR w v l := by
  rcases Go.Joins.ownsRow_forms h with ⟨rfl, h0⟩ | ⟨g, cap, rfl⟩
  · exact ⟨none, 0, by rw [h0], fun hp => by omega⟩
  · refine ⟨_, cap, rfl, fun _ => ⟨g, 0, rfl, (h.lt g rfl).2, fun i r hr => ?_⟩⟩
    have hlt := (List.getElem?_eq_some_iff.1 hr).1
    have hc := cells_get l i r hr
    rw [Nat.zero_add]
    exact ⟨(h.cellAt _ (by omega)).trans hc.1, (h.cellAt _ (by omega)).trans hc.2⟩

set_option maxRecDepth 100000 in
set_option maxHeartbeats 4000000 in
theorem same_rd (w : World) (u v : Value) (l : List R) (hu : RdR w u l) (hv : RdR w v l) (hn : l.length ≤ 1000) :
    Calls Try.prog 19 #[u, v] w fun e w' => e = .returned (.bool true) ∧ Below w.heap.size w w' := by
  obtain ⟨A, cap, rfl, hA⟩ := hu
  obtain ⟨A', cap', rfl, hB⟩ := hv
  have e0 : (0 : Int) ≤ (l.length : Int) := by omega
  go_enter Try.func19, Try.ntmps19
  go_wp2
  go_loopg [5] l.length (fun (gh : Nat) s5 wx => ∃ i : Nat, gh = l.length - i ∧ i ≤ l.length ∧ s5 = .int .i64 (i : Int) ∧ Below w.heap.size w wx)
  case atStart => exact ⟨0, rfl, Nat.zero_le _, rfl, Below.refl _ _⟩
  case round =>
    obtain ⟨i, rfl, hi, rfl, hbel⟩ := hrel
    by_cases hlt : i < l.length
    · have t1 : (i : Int) < (l.length : Int) := by omega
      have t2 : (0 : Int) ≤ (i : Int) := by omega
      obtain ⟨r, hr⟩ : ∃ r, l[i]? = some r := ⟨_, List.getElem?_eq_getElem hlt⟩
      obtain ⟨g, o, rfl, hg, hc⟩ := hA (by omega)
      obtain ⟨g', o', rfl, hg', hc'⟩ := hB (by omega)
      have c1 : wr.cell? ⟨g, o + i * 2, none⟩ = some (.int .i64 r.1) := (hbel.cell (p := ⟨g, o + i * 2, none⟩) hg).trans (hc i r hr).1
      have c2 : wr.cell? ⟨g, o + i * 2 + 1, none⟩ = some (.int .i64 r.2) := (hbel.cell (p := ⟨g, o + i * 2 + 1, none⟩) hg).trans (hc i r hr).2
      have c3 : wr.cell? ⟨g', o' + i * 2, none⟩ = some (.int .i64 r.1) := (hbel.cell (p := ⟨g', o' + i * 2, none⟩) hg').trans (hc' i r hr).1
      have c4 : wr.cell? ⟨g', o' + i * 2 + 1, none⟩ = some (.int .i64 r.2) := (hbel.cell (p := ⟨g', o' + i * 2 + 1, none⟩) hg').trans (hc' i r hr).2
      have HB := Lib.hid hbel
      clear hbel hr hc hc' hA hB
      go_wp2_with fail
      go_quiet (fail)
      go_wp2
      go_roundg (l.length - (i + 1))
      case measure => omega
      case rel => exact ⟨i + 1, rfl, hlt, by go_num, by first | exact HB.out | exact below_drewN HB.out _ | exact HB.out.drew⟩
    · have hil : i = l.length := by omega
      subst hil
      have t1 : decide ((l.length : Int) < (l.length : Int)) = false := by simp
      have HB := Lib.hid hbel
      clear hbel
      go_wp2
      go_ret
      exact ⟨rfl, HB.out⟩

/-- A slice of the rows from a up to b. -/
theorem rd_slice (w : World) (g cap : Nat) (l : List R) (hc : l.length ≤ cap) (hv : RdR w (.slice (some ⟨g, 0, none⟩) l.length cap) l) (a : Nat) (ha : a ≤ l.length) :
    ∃ v', RdR w v' (l.drop a) ∧ ∀ W, (Instr.slice 28 (.slice (some ⟨g, 0, none⟩) l.length cap) (some (.int .i64 (a : Int))) none none).run Try.prog W = .ok v' W := by
  obtain ⟨o, ho, hrun⟩ := slice_some g l.length cap a ha hc
  refine ⟨_, ?_, hrun⟩
  obtain ⟨A, cap2, he, h2⟩ := hv
  simp only [Value.slice.injEq] at he
  obtain ⟨rfl, _, rfl⟩ := he
  refine ⟨some ⟨g, o, none⟩, cap - a, by rw [List.length_drop], fun h0 => ?_⟩
  rw [List.length_drop] at h0
  obtain ⟨g1, o1, he, hg, hcell⟩ := h2 (by omega)
  simp only [Option.some.injEq, Addr.mk.injEq] at he
  obtain ⟨rfl, rfl, _⟩ := he
  refine ⟨g, o, rfl, hg, fun i r hr => ?_⟩
  rw [List.getElem?_drop] at hr
  have := hcell (a + i) r hr
  rw [ho (by omega)]
  rw [show a * 2 + i * 2 = 0 + (a + i) * 2 by omega]
  exact this

set_option maxRecDepth 100000 in
set_option maxHeartbeats 1000000 in
theorem rfrom_any (base : Nat) (w : World) (b : Nat) (v : Value) (l : List R) (k : Int) (hT : TabV base w b v l) (ha : asc l) (hn : l.length ≤ 1000) :
    Calls Try.prog 27 #[.pointer (some ⟨b, 0, none⟩), .int .i64 k] w fun e w' => ∃ u, e = .returned u ∧ RdR w' u (fromL l k) ∧ Below w.heap.size w w' := by
  have HP := Lib.hid (place_any base w b v l k hT ha hn)
  have hpl := pl_le l k
  have hr := RdR.of_own hT.2.2
  obtain ⟨v', hv', hrun⟩ : ∃ v', RdR w v' (fromL l k) ∧ ∀ W, (Instr.slice 28 v (some (.int .i64 ((pl l k : Nat) : Int))) none none).run Try.prog W = .ok v' W := by
    rcases Go.Joins.ownsRow_forms hT.2.2 with ⟨rfl, h0⟩ | ⟨g, cap, rfl⟩
    · have hl : l = [] := List.length_eq_zero_iff.1 h0
      subst hl
      refine ⟨.slice none 0 0, ⟨none, 0, rfl, fun h => absurd h (Nat.lt_irrefl 0)⟩, fun W => ?_⟩
      show (Instr.slice 28 (.slice none 0 0) (some (.int .i64 0)) none none).run Try.prog W = _
      simp [Instr.slice, Instr.sliceBounds, Instr.sliceBound, asIntOf, run_underlying Try.underlying28]
    · exact rd_slice w g cap l (own_cap hT.2.2) hr (pl l k) hpl
  have c0 := hT.2.1.cell
  have hlt := hT.2.1.lt
  have HV := Lib.hid hv'
  clear hv' hT ha hn hr
  obtain ⟨p, hp⟩ : ∃ p, p = pl l k := ⟨_, rfl⟩
  rw [← hp] at HP hrun
  clear hp hpl
  go_enter Try.func27, Try.ntmps27
  go_wp2_with (go_at_call 39; refine HP.out.mono ?_; rintro e w1 ⟨rfl, hb⟩; have HB := Lib.hid hb; have c1 := (hb.cell (p := ⟨b, 0, none⟩) hlt).trans c0; clear hb)
  go_ret
  exact ⟨_, rfl, HV.out.below HB.out, HB.out⟩
end Go.Proofs.Ytflhpijcfiamgaa.Tb.Rf
