/-
  The law TableNil answers true: its walk. Conditions: none.
-/
import Derived.Test.YtflhpijcfiamgaaTKnown
import Derived.Test.YtflhpijcfiamgaaTMutIi
import Derived.Test.YtflhpijcfiamgaaTFrmIi
import Derived.Test.YtflhpijcfiamgaaTMrgIi
namespace Go.Proofs.Ytflhpijcfiamgaa.Tb
open Go.RowKit Go.Sort Go.Shelf
attribute [local go_sem] Oper.semAt_some

theorem nilR (w : World) : Ii.TabR w none [] := .inl ⟨rfl, rfl⟩
set_option maxRecDepth 100000 in
theorem nil2_any (a b : Int) (w : World) : Calls Try.prog 36 #[.int .i64 a, .int .i64 b] w fun e w' => e = .returned (.int .i64 a) ∧ w = w' := by
  go_enter Try.func36, Try.ntmps36
  go_wp2
  go_ret
  exact ⟨rfl, rfl⟩

set_option maxRecDepth 100000 in
set_option maxHeartbeats 4000000 in
theorem law_nil (k v : Int) (w : World) : Calls Try.prog 7 #[.int .i64 k, .int .i64 v] w fun e w' => e = .returned (.bool true) ∧ Below w.heap.size w w' := by
  refine (callsIn_wide (n := 6)).1 ?_
  have hmf : ∀ (fn : Fn) (first cap : Array Value) (w : World), (Instr.makeFunc fn first cap).run Try.prog w = .ok (.func fn first cap) w := fun _ _ _ _ => rfl
  have CG : Hid (∀ W : World, Calls Try.prog 10 #[.pointer none, .int .i64 k] W fun e w' => e = .returned (.tuple #[.int .i64 0, .bool false]) ∧ Below W.heap.size W w') := fun W => Ii.get_any W none [] k (nilR W) List.Pairwise.nil (by decide)
  have CA : Hid (∀ W : World, Calls Try.prog 26 #[.pointer none, .int .i64 k] W fun e w' => e = .returned (.tuple #[.agg #[.int .i64 0, .int .i64 0], .bool false]) ∧ Below W.heap.size W w') := fun W => Ii.at_none W none [] k (nilR W) (by decide) (by simp; omega)
  refine callsIn_of_wp_marks Try.func7 rfl trivial ?_ rfl
  simp only [Try.ntmps7, List.size_toArray, List.length_cons, List.length_nil, Nat.reduceAdd, Nat.reduceSub, Array.replicate_succ, Array.replicate_zero, List.push_toArray, List.append_toArray, List.nil_append, List.cons_append]
  gi_wp2_with (first
    | (refine ⟨trivial, ?_⟩; gi_at_call 22; refine (callsIn_wide.2 (known_any _)).mono ?_; rintro e w1 ⟨rfl, k1⟩)
    | (refine ⟨trivial, ?_⟩; gi_at_call 10; refine (callsIn_wide.2 (CG.out _)).mono ?_; rintro e w2 ⟨rfl, k2⟩)
    | (refine ⟨trivial, ?_⟩; gi_at_call 26; refine (callsIn_wide.2 (CA.out _)).mono ?_; rintro e w3 ⟨rfl, k3⟩)
    | (refine ⟨trivial, ?_⟩; gi_at_call 24; refine (callsIn_wide.2 (Ii.each_any none _)).mono ?_; rintro e w4 ⟨rfl, rfl⟩))
  obtain ⟨W0, hW0⟩ : ∃ W0, W0 = ((w3.alloc (.cells #[.int .i64 0, .int .i64 0] 55)).alloc (.cells #[.int .i64 0] 3)).alloc (.cells #[.pointer none] 23) := ⟨_, rfl⟩
  have z3 : w.heap.size + 1 ≤ w3.heap.size := by
    have h1 := k1.size
    have h2 := k2.size
    have h3 := k3.size
    simp at h1
    omega
  have hbv : Boxed w3 w.heap.size 3 (.int .i64 v) := block_kept (block_kept (block_kept (Boxed.new w _ _) k1) k2) k3
  have hB3 : Below w.heap.size w w3 := by
    have h1 := k1.size
    have h2 := k2.size
    simp at h1
    exact ((((Below.refl _ _).alloc (Nat.le_refl _) _).trans (k1.mono (by simp))).trans (k2.mono (by omega))).trans (k3.mono (by omega))
  have hb0 : W0.heap[w3.heap.size + 1 + 1]? = some (.cells #[.pointer none] 23 (0, 0)) := by
    rw [hW0]
    have := block_new ((w3.alloc (.cells #[.int .i64 0, .int .i64 0] 55)).alloc (.cells #[.int .i64 0] 3)) (.cells #[.pointer none] 23)
    simpa using this
  have hbn : Boxed W0 (w3.heap.size + 1) 3 (.int .i64 0) := by
    rw [hW0]
    have := Boxed.new (w3.alloc (.cells #[.int .i64 0, .int .i64 0] 55)) 3 (.int .i64 0)
    rw [World.size_alloc] at this
    exact this.alloc _
  have hbv0 : Boxed W0 w.heap.size 3 (.int .i64 v) := by rw [hW0]; exact ((hbv.alloc _).alloc _).alloc _
  have hB0 : Below w.heap.size w W0 := by
    rw [hW0]
    exact ((hB3.alloc (by omega) _).alloc (by simp; omega) _).alloc (by simp; omega) _
  have z0 : W0.heap.size = w3.heap.size + 1 + 1 + 1 := by rw [hW0]; simp
  rw [← hW0]
  clear hW0 k1 k2 k3 hbv hB3
  have HB0 := Lib.hid hB0
  have HBN := Lib.hid hbn
  have HBV := Lib.hid hbv0
  have Z0 : w.heap.size + 3 ≤ W0.heap.size := by omega
  clear hB0 hbn hbv0
  refine' wpIn_rangeFunc_ownG rfl (by omega) (gf := 47) (lb := #[.pointer (some ⟨w3.heap.size + 1 + 1, 0, none⟩)]) rfl trivial (enters_of Try.func47 (by kernel_rfl) rfl)
    (Ii.each_stops _ (by omega) (w3.heap.size + 1 + 1) W0 none [] (nilR _) (by decide) W0 (Below.refl _ _) hb0) belowK_t (belowK_b (Nat.le_refl _)) (Below.refl _ _) (fun _ => rfl)
    (fun _ W => Below W0.heap.size W0 W) (fun _ _ _ => False) (ownFrom_below (Nat.le_refl _) (Nat.le_refl _)) (fun _ _ _ _ _ hs _ _ => hs) (Below.refl _ _) _ ?assign ?body ?done ?stop
  case assign =>
    intro l x W K hK
    gi_wp2
    exact hK
  case body =>
    rintro l pre x W _ hlt
    exact absurd hlt (Nat.not_lt_zero _)
  case stop =>
    rintro D c pre W _ _ h _
    exact h.elim
  case done =>
    rintro D ys W hD rfl hI hK
    have hDW : D < W.heap.size := (Array.getElem?_eq_some_iff.1 hK).1
    have HI := Lib.hid hI
    have HK := Lib.hid hK
    clear hI hK
    gi_wp2_with (refine ⟨trivial, ?_⟩; gi_at_call 25; refine (callsIn_wide.2 (Ii.from_any none k _)).mono ?_; rintro e w4 ⟨rfl, rfl⟩)
    obtain ⟨W1, hW1⟩ : ∃ W1, W1 = (W.alloc (.cells #[.pointer none] 23)).alloc (.cells #[.int .i64 k] 3) := ⟨_, rfl⟩
    have hB1 : Below W.heap.size W W1 := by rw [hW1]; exact ((Below.refl _ _).alloc (Nat.le_refl _) _).alloc (by simp) _
    have hp1 : W1.heap[W.heap.size]? = some (.cells #[.pointer none] 23 (0, 0)) := by rw [hW1]; exact block_old (block_new _ _) _
    have hp2 : W1.heap[W.heap.size + 1]? = some (.cells #[.int .i64 k] 3 (0, 0)) := by
      rw [hW1]
      have := block_new (W.alloc (.cells #[.pointer none] 23)) (.cells #[.int .i64 k] 3)
      simpa using this
    rw [← hW1]
    have HB1 := Lib.hid hB1
    have zW := HI.out.size
    have zW1 := hB1.size
    have HD : Hid (W1.heap[D]? = some (.deferred (some []))) := (hB1.block D hDW).trans HK.out
    clear hW1 hB1
    refine' wpIn_rangeFunc_ownG rfl (by omega) (gf := 49) (lb := #[.pointer (some ⟨W.heap.size, 0, none⟩), .pointer (some ⟨W.heap.size + 1, 0, none⟩)]) rfl trivial (enters_of Try.func49 (by kernel_rfl) rfl)
      (Ii.from_stops _ (by omega) W.heap.size W1 none k [] (nilR _) List.Pairwise.nil (by decide) W1 (Below.refl _ _) hp1 hp2) belowK_t (belowK_b (Nat.le_refl _)) (Below.refl _ _) (fun _ => rfl)
      (fun _ W => Below W1.heap.size W1 W) (fun _ _ _ => False) (ownFrom_below (Nat.le_refl _) (Nat.le_refl _)) (fun _ _ _ _ _ hs _ _ => hs) (Below.refl _ _) _ ?assign2 ?body2 ?done2 ?stop2
    case assign2 =>
      intro l x W K hK
      gi_wp2
      exact hK
    case body2 =>
      rintro l pre x W _ hlt
      exact absurd hlt (Nat.not_lt_zero _)
    case stop2 =>
      rintro D c pre W _ _ h _
      exact h.elim
    case done2 =>
      rintro D2 ys W2 hD2 _ hI2 hK2
      have hD2W : D2 < W2.heap.size := (Array.getElem?_eq_some_iff.1 hK2).1
      have zW2 := hI2.size
      have HI2 := Lib.hid hI2
      have HK2 := Lib.hid hK2
      have HB2 : Hid (Below W0.heap.size W0 W2) := (HI.out.trans (HB1.out.mono (by omega))).trans (hI2.mono (by omega))
      have HDD : Hid (W2.heap[D]? = some (.deferred (some []))) := (hI2.block D (by omega)).trans HD.out
      have bv2 := block_kept HBV.out HB2.out
      have bn2 := block_kept HBN.out HB2.out
      have cv2 := (block_cell bv2).1
      have cn2 := (block_cell bn2).1
      clear hI2 hK2
      gi_wp2_with (first
        | (refine ⟨trivial, ?_⟩; gi_at_call 14; refine (callsIn_wide.2 (Ii.change_nil k _ _)).mono ?_; rintro e w5 ⟨rfl, rfl⟩)
        | (refine ⟨trivial, ?_⟩; gi_at_call 17; refine (callsIn_wide.2 (Ii.copy_any _ none [] (nilR _) (by decide))).mono ?_; rintro e w6 ⟨tc, rfl, tC, k6⟩; have cv6 := (block_cell (block_kept bv2 k6)).1; have cn6 := (block_cell (block_kept bn2 k6)).1))
      have B6 : Hid (Below W2.heap.size W2 w6) := k6
      have TC : Hid (Ii.TabR w6 (some ⟨tc, 0, none⟩) []) := tC.read
      have z6 := k6.size
      clear k6 tC cv2 cn2 cv6
      have hrow : Hid (Ii.RowsR (w6.alloc (.cells #[.int .i64 k, .int .i64 v] 55)) (.slice (some ⟨w6.heap.size, 0, none⟩) 1 1) [(k, v)]) := by
        refine ⟨some ⟨w6.heap.size, 0, none⟩, 1, rfl, Nat.le_refl _, fun e => (by cases e), .inr ⟨w6.heap.size, 0, rfl, by simp, fun i r hi => ?_⟩⟩
        have hb := block_new w6 (.cells #[.int .i64 k, .int .i64 v] 55)
        match i with
        | 0 => simp at hi; subst hi; exact ⟨cell_of_row _ _ _ _ _ _ hb, cell_of_row _ _ _ _ _ _ hb⟩
        | i + 1 => simp at hi
      have hof := Lib.hid (callsIn_wide (n := 5).2 (Ii.of_any 19 Ii.sortOK_small _ _ _ hrow.out (by simp) (by simp)))
      have B7 : Hid (Below w6.heap.size w6 (w6.alloc (.cells #[.int .i64 k, .int .i64 v] 55))) := (Below.refl _ _).alloc (Nat.le_refl _) _
      have z7 : w6.heap.size < (w6.alloc (.cells #[.int .i64 k, .int .i64 v] 55)).heap.size := by simp
      generalize w6.alloc (.cells #[.int .i64 k, .int .i64 v] 55) = W7 at hrow hof B7 z7 ⊢
      refine ⟨trivial, ?_⟩
      refine hof.out.mono ?_
      rintro e w8 ⟨tb, rfl, tB, k8⟩
      have hput : putAll [(k, v)] = [(k, v)] := rfl
      rw [hput] at tB
      have HM := Lib.hid (callsIn_wide (n := 5).2 (Ii.merge_any 19 Ii.sortOK_small (fun x _ => x) 36 #[] w8 none (some ⟨tb, 0, none⟩) [] [(k, v)] (nilR _) tB.read (by simp) (by simp) (by simp) (enters_of Try.func36 (by kernel_rfl) rfl) (fun a b W _ => nil2_any a b W)))
      have B8 : Hid (Below w6.heap.size w6 w8) := B7.out.trans (k8.mono (by omega))
      have z8 := k8.size
      clear k8 tB hput hof hrow
      gi_wp2_with (refine ⟨trivial, ?_⟩; gi_at_call 28; refine HM.out.mono ?_; rintro e w9 ⟨tm, d, rfl, hst, tM, k9⟩)
      have hgd : gath (fun x _ => x) d = [(k, v)] := by
        have hg := gath_spec (fun x _ => x) d hst.1
        refine asc_ext _ _ hg.1 (List.pairwise_singleton _ _) fun q => ?_
        rw [hg.2.1, hst.2, List.nil_append, kv_one, look_cons]
        by_cases hq : k = q <;> simp [hq, fj, look]
      rw [hgd] at tM
      have B9 : Hid (Below w6.heap.size w6 w9) := B8.out.trans (k9.mono (by omega))
      have TM : Hid (Ii.TabR w9 (some ⟨tm, 0, none⟩) [(k, v)]) := tM.read
      have z9 := k9.size
      clear hst tM k9 hgd HM
      have CV : Hid (∀ W, Below w9.heap.size w9 W → W.cell? ⟨w.heap.size, 0, none⟩ = some (.int .i64 v)) := fun W hW => (block_cell (block_kept (block_kept (block_kept bv2 B6.out) B9.out) (hW))).1
      have CN : Hid (∀ W, Below w9.heap.size w9 W → W.cell? ⟨w3.heap.size + 1, 0, none⟩ = some (.int .i64 0)) := fun W hW => (block_cell (block_kept (block_kept (block_kept bn2 B6.out) B9.out) (hW))).1
      have CL0 : Hid (∀ W, Calls Try.prog 18 #[.pointer none] W fun e w' => e = .returned (.int .i64 0) ∧ W = w') := fun W => Ii.len_any W none [] (nilR _) (by decide)
      have CLc : Hid (∀ W, Below w9.heap.size w9 W → Calls Try.prog 18 #[.pointer (some ⟨tc, 0, none⟩)] W fun e w' => e = .returned (.int .i64 0) ∧ W = w') := fun W hW => Ii.len_any W _ [] (TC.out.below (B9.out.trans (hW.mono (by omega)))) (by decide)
      have CLm : Hid (∀ W, Below w9.heap.size w9 W → Calls Try.prog 18 #[.pointer (some ⟨tm, 0, none⟩)] W fun e w' => e = .returned (.int .i64 1) ∧ W = w') := fun W hW => Ii.len_any W _ [(k, v)] (TM.out.below hW) (by simp)
      have CR : Hid (∀ W, Calls Try.prog 21 #[.pointer none] W fun e w' => ∃ g c, e = .returned (.slice (some ⟨g, 0, none⟩) 0 c) ∧ Below W.heap.size W w') := fun W => (Ii.rows_any W none [] (nilR _) (by decide)).mono fun e w' ⟨v, h1, h2, h3, h4⟩ => by
        rcases Go.Joins.ownsRow_forms h2 with ⟨h, _⟩ | ⟨g, c, h⟩
        · exact absurd h h3
        · exact ⟨g, c, by rw [h1, h]; rfl, h4⟩
      clear cn6
      gi_wp2_with (first
        | (refine ⟨trivial, ?_⟩; gi_at_call 22; refine (callsIn_wide.2 (known_any _)).mono ?_; rintro e w10 ⟨rfl, k10⟩; have cv10 := CV.out _ k10)
        | (refine ⟨trivial, ?_⟩; gi_at_call 8; refine (callsIn_wide.2 (Ii.put_nil k v _)).mono ?_; rintro e w11 ⟨rfl, rfl⟩)
        | (refine ⟨trivial, ?_⟩; gi_at_call 12; refine (callsIn_wide.2 (Ii.drop_nil k _)).mono ?_; rintro e w12 ⟨rfl, k12⟩; have q12 := k10.trans (k12.mono k10.size))
        | (refine ⟨trivial, ?_⟩; gi_at_call 18; (with_reducible refine (callsIn_wide.2 (CL0.out _)).mono ?_); rintro e w13 ⟨rfl, rfl⟩)
        | (refine ⟨trivial, ?_⟩; gi_at_call 21; refine (callsIn_wide.2 (CR.out _)).mono ?_; rintro e w14 ⟨g14, c14, rfl, k14⟩; have q14 := q12.trans (k14.mono q12.size); have cn14 := CN.out _ q14)
        | (refine ⟨trivial, ?_⟩; gi_at_call 18; (with_reducible refine (callsIn_wide.2 (CLc.out _ q14)).mono ?_); rintro e w15 ⟨rfl, rfl⟩)
        | (refine ⟨trivial, ?_⟩; gi_at_call 18; (with_reducible refine (callsIn_wide.2 (CLm.out _ q14)).mono ?_); rintro e w16 ⟨rfl, rfl⟩))
      have hB : Below W2.heap.size W2 w14 := (B6.out.trans (B9.out.mono (by omega))).trans (q14.mono (by omega))
      have hk2 : w14.heap[D2]? = some (.deferred (some [])) := (hB.block D2 (by omega)).trans HK2.out
      have hk1 : w14.heap[D]? = some (.deferred (some [])) := (hB.block D (by omega)).trans HDD.out
      refine ⟨by simp, .inl ⟨_, _, rfl, run_takeDeferred hk2, ?_⟩⟩
      have hk3 : (w14.putObj D2 (.deferred none)).heap[D]? = some (.deferred (some [])) := (World.putObj_heap_other (by omega)).trans hk1
      refine ⟨by simp, .inl ⟨_, _, rfl, run_takeDeferred hk3, ?_⟩⟩
      have e1 : Below w.heap.size w w14 := (HB0.out.trans (HB2.out.mono (by omega))).trans (hB.mono (by omega))
      have e2 : Below w.heap.size w14 (w14.putObj D2 (.deferred none)) := belowK_b (w := w) (Nat.le_refl _) w14 D2 _ _ (by omega) hk2 rfl rfl
      have e3 : Below w.heap.size (w14.putObj D2 (.deferred none)) ((w14.putObj D2 (.deferred none)).putObj D (.deferred none)) := belowK_b (w := w) (Nat.le_refl _) _ D _ _ (by omega) hk3 rfl rfl
      exact ⟨_, results_tmp rfl _ _ _, rfl, (e1.trans e2).trans e3⟩
end Go.Proofs.Ytflhpijcfiamgaa.Tb
