/-
  The contracts of Merge and of the function that it hands to gather (which defers a recover). Conditions: the function handed in answers and leaves all unchanged; at most five hundred rows each; the sort's contract.
-/
import Derived.Test.YtflhpijcfiamgaaTOfIi
import Derived.Test.YtflhpijcfiamgaaTRwsIi
import Derived.Recover
import Derived.Defers
namespace Go.Proofs.Ytflhpijcfiamgaa.Tb.Ii
open Go.RowKit Go.Sort

theorem idle_any (w : World) : CallsD Try.prog 52 #[] .returning w fun e u' w' => e = .returned (.tuple #[]) ∧ u' = .returning ∧ w' = w := by
  refine callsD_of_wpS Try.func52 rfl fun c₀ cs hu => ?_
  first
    | (apply wpS_seq
       apply wpS_region
       simp [wpOpsS, go_sem, recoverD, hu, Try.ntmps52, Exit.thenS, bodyPostS, results, Try.results52])
    | (apply wpS_region
       simp [wpOpsS, go_sem, recoverD, hu, Try.ntmps52, bodyPostS, results, Try.results52])
  all_goals (cases c₀; simp_all)
set_option maxRecDepth 100000 in
theorem join_any (j : V → V → V) (bf : Nat) (fb : Array Value) (bb : Nat) (a b : V) (w : World) (hb : w.cell? ⟨bb, 0, none⟩ = some (.func (.func bf) #[] fb))
    (eg : ∀ args w, (callFunc bf args).run Try.prog w = .ok (.enter bf args) w)
    (hj : Calls Try.prog bf (#[ev a, ev b] ++ fb) w fun e w' => e = .returned (ev (j a b)) ∧ w = w') :
    Calls Try.prog 51 #[ev a, ev b, .pointer (some ⟨bb, 0, none⟩)] w fun e w' => e = .returned (ev (j a b)) ∧ w = w' := by
  have hnf : ∀ w : World, Sem.run Try.prog (binOp .eql 61 (.func (.func bf) #[] fb) .nilFunc) w = .ok (.bool false) w := fun w => by
    first | rfl | kernel_rfl | (simp [binOp, run_underlying Try.underlying61]; done) | (simp [binOp, go_sem, run_underlying Try.underlying61]; trace_state; done)
  have hmf : ∀ (fn : Fn) (first cap : Array Value) (w : World), (Instr.makeFunc fn first cap).run Try.prog w = .ok (.func fn first cap) w := fun _ _ _ _ => rfl
  obtain ⟨y, hy⟩ : ∃ y, y = j a b := ⟨_, rfl⟩
  rw [← hy] at hj ⊢
  have HJ := Lib.hid hj
  clear hj hy
  unfold ev at *
  go_enter_defers Try.func51, Try.ntmps51
  go_wp2_with (go_at_fn bf; refine HJ.out.mono ?_; rintro e w' ⟨rfl, rfl⟩)
  refine leaves_cons (f := 52) (args := #[]) (by simp) (by simp [go_sem]) ?_
  refine (idle_any _).mono ?_
  rintro e u' w'' ⟨rfl, rfl, rfl⟩
  exact ⟨_, results_tmp rfl _ _ _, rfl, rfl⟩

/-- What Merge makes. -/
def MergedT (j : V → V → V) (w : World) (l : List R) (e : Ending) (w' : World) : Prop := ∃ tb d, e = .returned (.pointer (some ⟨tb, 0, none⟩)) ∧ Stab l d ∧ TabO w.heap.size w' tb (gath j d) ∧ Below w.heap.size w w'
set_option maxRecDepth 100000 in
set_option maxHeartbeats 1000000 in
theorem merge_any (N : Nat) (hN : SortOK N) (j : V → V → V) (bf : Nat) (fb : Array Value) (w : World) (pa pb : Option Addr) (la lb : List R) (ha : TabR w pa la) (hb : TabR w pb lb) (hla : la.length ≤ 500) (hlb : lb.length ≤ 500) (hlN : la.length + lb.length ≤ N)
    (eg : ∀ args w, (callFunc bf args).run Try.prog w = .ok (.enter bf args) w)
    (hj : ∀ a b W, Below w.heap.size w W → Calls Try.prog bf (#[ev a, ev b] ++ fb) W fun e w' => e = .returned (ev (j a b)) ∧ W = w') :
    Calls Try.prog 28 #[.pointer pa, .pointer pb, .func (.func bf) #[] fb] w (MergedT j w (la ++ lb)) := by
  obtain ⟨i0, hi0, hz0, hz1, hz2⟩ := info_parts rowInfo
  have hmf : ∀ (fn : Fn) (first cap : Array Value) (w : World), (Instr.makeFunc fn first cap).run Try.prog w = .ok (.func fn first cap) w := fun _ _ _ _ => rfl
  have b0 : Below w.heap.size w (w.alloc (.cells #[.func (.func bf) #[] fb] 61)) := (Below.refl _ _).alloc (Nat.le_refl _) _
  have B0 := Lib.hid b0
  have X0 : Hid (Boxed (w.alloc (.cells #[.func (.func bf) #[] fb] 61)) w.heap.size 61 (.func (.func bf) #[] fb)) := Boxed.new w _ _
  have RA := Lib.hid (rows_any _ pa la (ha.below b0) (by omega))
  have HB := Lib.hid hb
  have HN := Lib.hid hN
  have HJ := Lib.hid hj
  clear b0 ha hb hN hj
  go_enter Try.func28, Try.ntmps28
  have z0 : w.heap.size < (w.alloc (.cells #[.func (.func bf) #[] fb] 61)).heap.size := by simp
  go_wp2_with fail
  generalize w.alloc (.cells #[.func (.func bf) #[] fb] 61) = W1 at *
  refine RA.out.mono ?_
  rintro e W2 ⟨v1, rfl, o1, _, k1⟩
  have RB := Lib.hid (rows_any W2 pb lb (HB.out.below (B0.out.trans (k1.mono (by omega)))) (by omega))
  have O1 := Lib.hid o1
  have K1 := Lib.hid k1
  clear o1 k1 RA
  go_wp2_with fail
  refine RB.out.mono ?_
  rintro e W3 ⟨v2, rfl, o2, n2, k2⟩
  obtain ⟨g2, cp2, rfl⟩ : ∃ g cap, v2 = .slice (some ⟨g, 0, none⟩) lb.length cap := by
    rcases Go.Joins.ownsRow_forms o2 with ⟨h, _⟩ | h
    · exact absurd h n2
    · exact h
  have O13 := Lib.hid (own_kept O1.out k2)
  have O2 := Lib.hid o2
  have K2 := Lib.hid k2
  have z1 := K1.out.size
  have z2 := k2.size
  clear o2 k2 n2 RB
  go_wp2_with (at_builtin; refine wpList_append_own _ rfl _ _ 24 rfl W1.heap.size 55 i0 _ 2 16 Try.underlying24 hi0 hz0 hz1 hz2 rfl (by decide) _ _ _ rfl O13.out ⟨g2, 0, none⟩ lb.length cp2 (cells lb) rfl (cells_len lb) (O2.out.cells rfl) (cells_one lb) (by unfold maxLen; omega) (by omega) (by omega) ?_; intro v' w4 hown hgrow _)
  have hown' : w4.ownsRow W1.heap.size 55 2 v' (la ++ lb).length (cells (la ++ lb)) := by rw [cells_append, List.length_append]; exact hown
  have k4 : Below W1.heap.size W1 w4 := (K1.out.trans (K2.out.mono (by omega))).grown hgrow (by omega) (fun k hk => (O13.out.lt k hk).1)
  have x4 : w4.cell? ⟨w.heap.size, 0, none⟩ = some (.func (.func bf) #[] fb) := (block_cell (block_kept X0.out k4)).1
  have hg := gather_own N HN.out j 51 #[.pointer (some ⟨w.heap.size, 0, none⟩)] w4 W1.heap.size v' (la ++ lb) (by rw [List.length_append]; omega) (by rw [List.length_append]; omega) hown' (enters_of Try.func51 (by kernel_rfl) rfl)
    (fun a b W hW => join_any j bf fb w.heap.size a b W (by
      have := hW.block w.heap.size (by have := k4.size; omega) (by omega)
      exact (World.cell?_of_block (w := w4) (a := ⟨w.heap.size, 0, none⟩) this).trans x4) eg (HJ.out a b W ((B0.out.trans (k4.mono (by omega))).trans (hW.below (by have := k4.size; omega) (fun k hk => by omega)))))
  have HG := Lib.hid hg
  have K4 := Lib.hid k4
  clear hg k4 x4 hown hown' hgrow
  go_wp2_with (go_at_call 50; refine HG.out.mono ?_; rintro e w5 ⟨tb, d, rfl, hst, htab, hk⟩)
  have HST := Lib.hid hst
  have HT := Lib.hid htab
  have HK := Lib.hid hk
  clear hst htab hk
  go_wp2
  go_ret
  have z4 := K4.out.size
  obtain ⟨h1, v, h2, h3⟩ := HT.out
  exact ⟨tb, d, rfl, HST.out, ⟨by omega, v, h2, Go.Joins.ownsRow_le h3 (by omega)⟩, (B0.out.trans (K4.out.mono (by omega))).trans (HK.out.below (by omega) (fun k hk => by omega))⟩
end Go.Proofs.Ytflhpijcfiamgaa.Tb.Ii
