/-
  What Save leaves at a store that is not armed, and at one that may die under it. Conditions: a store with room enough.
-/
import Derived.Test.YtklngdmpledgeaaPSav
import Derived.Test.YtklngdmpledgeaaPB8
import Derived.Test.YtklngdmpledgeaaPB2
import Derived.Deep.RegionHeld3
namespace Go.Proofs.Ytklngdmpledgeaa.Sp
open Go.RowKit Fr Sr

theorem hne : ¬ knew = ksnap := by decide
/-- Not armed, not down. -/
theorem sv_ok {s : S} {L : List Fi} {bs : List Int} (ha : s.a = false) (hd : s.d = false) (hr : ¬ s.room < s.used - ((bytL L knew).length : Int) + (bs.length : Int)) :
    svE s L bs = 0 ∧ svL s L bs = putL (delL (putL L knew (dv, bs)) knew) ksnap (dv, bs) ∧ (svS s L bs).a = false ∧ (svS s L bs).d = false ∧ (svS s L bs).room = s.room := by
  have e1 : rdy s.d [knew] = 0 := by rw [hd]; decide
  have hU : ∀ m : Int, useS s m = s := fun m => by unfold useS; rw [ha]; rfl
  have hN : ∀ m : Int, useN s m = m := fun m => by unfold useN; rw [if_neg (fun h => by rw [ha] at h; cases h.1)]
  have hdw : dwn s = 0 := by unfold dwn; rw [hd]; rfl
  have hB : wriB s L knew bs.length := ⟨e1, hr⟩
  have hE : wriE s L knew bs.length = 0 := by
    unfold wriE; rw [e1, if_neg (by decide), if_neg hr, hU, hdw]
  have hL1 : wriL s L knew bs = putL L knew (dv, bs) := by
    unfold wriL
    rw [if_pos hB, hN, if_pos (by omega)]
    congr 2
    have : ((1 : Int) + (bs.length : Int) - 1).toNat = bs.length := by omega
    rw [this, List.take_length]
  have hS1 : (wriS s L knew bs.length).a = false ∧ (wriS s L knew bs.length).d = false ∧ (wriS s L knew bs.length).room = s.room := by
    unfold wriS
    rw [if_pos hB, hN, if_pos (by omega), hU]
    exact ⟨ha, hd, rfl⟩
  obtain ⟨s1, hs1⟩ : ∃ s1, s1 = wriS s L knew bs.length := ⟨_, rfl⟩
  rw [← hs1] at hS1
  obtain ⟨a1, d1, r1⟩ := hS1
  have hfn : fnd s1.d (putL L knew (dv, bs)) knew [ksnap, knew] = 0 := by
    have h3 : rdy s1.d [ksnap, knew] = 0 := by rw [d1]; decide
    unfold fnd
    rw [h3, if_neg (by decide), has_put, if_pos rfl]
    rfl
  have hU1 : useS s1 1 = s1 := by unfold useS; rw [a1]; rfl
  have hN1 : useN s1 1 = 1 := by unfold useN; rw [if_neg (fun h => by rw [a1] at h; cases h.1)]
  have hRL : renL s1 (putL L knew (dv, bs)) knew ksnap = putL (delL (putL L knew (dv, bs)) knew) ksnap (dv, bs) := by
    unfold renL
    rw [if_pos ⟨hfn, hN1⟩, byt_put, if_pos rfl]
  refine ⟨?_, ?_, ?_⟩
  · unfold svE
    rw [if_pos hE, ← hs1, hL1]
    unfold renE
    rw [hfn, if_neg (by decide), hU1]
    unfold dwn
    rw [d1]; rfl
  · unfold svL
    rw [if_pos hE, ← hs1, hL1]
    exact hRL
  · have : svS s L bs = { useS s1 1 with used := (usedL (renL s1 (putL L knew (dv, bs)) knew ksnap) : Int) } := by
      unfold svS
      rw [if_pos hE, ← hs1, hL1]
      unfold renS
      rw [if_pos hfn]
    rw [this, hU1]
    exact ⟨a1, d1, r1⟩
/-- Armed with u units. -/
structure Ar (s : S) (u : Nat) (R : Int) : Prop where
  a : s.a = true
  n : s.n = u
  d : s.d = false
  room : s.room = R
theorem Ar.use {s : S} {u : Nat} {R : Int} (h : Ar s u R) (m : Nat) : (u < m → useN s (m : Int) = u ∧ dwn (useS s (m : Int)) = 14) ∧ (m ≤ u → useN s (m : Int) = m ∧ dwn (useS s (m : Int)) = 0 ∧ Ar (useS s (m : Int)) (u - m) R) := by
  refine ⟨fun hu => ?_, fun hu => ?_⟩
  · have h1 : s.n < (m : Int) := by rw [h.n]; omega
    refine ⟨?_, ?_⟩
    · unfold useN; rw [if_pos ⟨h.a, h1⟩, h.n]
    · unfold useS; rw [if_pos h.a, if_pos h1]; rfl
  · have h1 : ¬ s.n < (m : Int) := by rw [h.n]; omega
    refine ⟨?_, ?_, ?_⟩
    · unfold useN; rw [if_neg (fun e => h1 e.2)]
    · unfold useS; rw [if_pos h.a, if_neg h1]; unfold dwn; rw [if_neg (by rw [h.d]; decide)]
    · unfold useS; rw [if_pos h.a, if_neg h1]
      exact ⟨h.a, by show s.n - (m : Int) = _; rw [h.n]; omega, h.d, h.room⟩
theorem wri_snap (s : S) (L : List Fi) (bs : List Int) : bytL (wriL s L knew bs) ksnap = bytL L ksnap := by
  unfold wriL
  split
  · split
    · rw [byt_put, if_neg hne]
    · rfl
  · rfl
/-- Whole, or as it was. -/
theorem sv_die {s : S} {u : Nat} {R : Int} {L : List Fi} {bs : List Int} (h : Ar s u R) (hr : ¬ s.room < s.used - ((bytL L knew).length : Int) + (bs.length : Int)) :
    (svE s L bs = 0 ∧ bytL (svL s L bs) ksnap = bs) ∨ (svE s L bs = 14 ∧ bytL (svL s L bs) ksnap = bytL L ksnap) := by
  have e1 : rdy s.d [knew] = 0 := by rw [h.d]; decide
  have hm : (1 : Int) + (bs.length : Int) = ((1 + bs.length : Nat) : Int) := by omega
  have hE : wriE s L knew bs.length = dwn (useS s ((1 + bs.length : Nat) : Int)) := by
    unfold wriE; rw [e1, if_neg (by decide), if_neg hr, hm]
  rcases Nat.lt_or_ge u (1 + bs.length) with hu | hu
  · obtain ⟨_, g2⟩ := (h.use (1 + bs.length)).1 hu
    have hE14 : wriE s L knew bs.length = 14 := hE.trans g2
    have f1 : svE s L bs = 14 := by unfold svE; rw [hE14, if_neg (by decide)]
    have f2 : svL s L bs = wriL s L knew bs := by unfold svL; rw [hE14, if_neg (by decide)]
    exact .inr ⟨f1, by rw [f2, wri_snap]⟩
  · obtain ⟨g1, g2, g3⟩ := (h.use (1 + bs.length)).2 hu
    have hE0 : wriE s L knew bs.length = 0 := hE.trans g2
    have f1 : svE s L bs = renE (wriS s L knew bs.length) (wriL s L knew bs) knew ksnap := by unfold svE; rw [hE0, if_pos rfl]
    have f2 : svL s L bs = renL (wriS s L knew bs.length) (wriL s L knew bs) knew ksnap := by unfold svL; rw [hE0, if_pos rfl]
    have hB : wriB s L knew bs.length := ⟨e1, hr⟩
    have hL1 : wriL s L knew bs = putL L knew (dv, bs) := by
      unfold wriL
      rw [if_pos hB, hm, g1, if_pos (by omega)]
      congr 2
      have : (((1 + bs.length : Nat) : Int) - 1).toNat = bs.length := by omega
      rw [this, List.take_length]
    have hS1 : Ar (wriS s L knew bs.length) (u - (1 + bs.length)) R := by
      unfold wriS
      rw [if_pos hB, hm, g1, if_pos (by omega)]
      exact ⟨g3.a, g3.n, g3.d, g3.room⟩
    obtain ⟨s1, hs1⟩ : ∃ s1, s1 = wriS s L knew bs.length := ⟨_, rfl⟩
    rw [← hs1] at hS1 f1 f2
    rw [f1, f2, hL1]
    have hfn : fnd s1.d (putL L knew (dv, bs)) knew [ksnap, knew] = 0 := by
      have h3 : rdy s1.d [ksnap, knew] = 0 := by rw [hS1.d]; decide
      unfold fnd
      rw [h3, if_neg (by decide), has_put, if_pos rfl]
      rfl
    have hR : renE s1 (putL L knew (dv, bs)) knew ksnap = dwn (useS s1 1) := by unfold renE; rw [hfn, if_neg (by decide)]
    rcases Nat.lt_or_ge (u - (1 + bs.length)) 1 with hv | hv
    · obtain ⟨k1, k2⟩ := (hS1.use 1).1 hv
      have hRL : renL s1 (putL L knew (dv, bs)) knew ksnap = putL L knew (dv, bs) := by
        unfold renL
        refine if_neg fun e => ?_
        have e3 := e.2
        have k1' : useN s1 1 = ((u - (1 + bs.length) : Nat) : Int) := k1
        omega
      rw [hRL]
      exact .inr ⟨hR.trans k2, by rw [byt_put, if_neg hne]⟩
    · obtain ⟨k1, k2, _⟩ := (hS1.use 1).2 hv
      have hRL : renL s1 (putL L knew (dv, bs)) knew ksnap = putL (delL (putL L knew (dv, bs)) knew) ksnap (dv, bs) := by
        unfold renL
        rw [if_pos ⟨hfn, k1⟩, byt_put, if_pos rfl]
      rw [hRL]
      exact .inl ⟨hR.trans k2, by rw [byt_put, if_pos rfl]⟩
end Go.Proofs.Ytklngdmpledgeaa.Sp

namespace Go.Proofs.Ytklngdmpledgeaa.Sp
open Go.RowKit Fr
attribute [local go_sem] Oper.semAt_some

theorem step_app_run {P : Program} (w : World) {ops : Array Oper} {o : Oper} {a : Act} {K : Act → World → Prop} {Q : Exit → Act → World → Prop} {E : Prop} (hgd : o.guard = none) (s x : Operand) (t tn : TypeId)
    (ho : o.op = .call { callee := .builtin .append, args := #[s, x], argTypes := #[t, tn] }) (vs vx : Value) (hs : a.eval s = vs) (hx : a.eval x = vx)
    (v' : Value) (w' : World) (hr : (Builtin.append_ #[t, tn] o.type #[vs, vx]).run P w = .ok v' w') (h : K (a.put o.dst v') w') :
    if Region.wanted o (yielded ops a.tmps) = true then Oper.wp P o a w K Q else E := by
  have hw : Region.wanted o (yielded ops a.tmps) = true := by simp [Region.wanted, hgd]
  rw [if_pos hw]
  exact Lib.wp_append_run w s x t tn ho vs vx hs hx v' w' hr h
theorem step_min {P : Program} (w : World) {ops : Array Oper} {o : Oper} {a : Act} {K : Act → World → Prop} {Q : Exit → Act → World → Prop} {E : Prop} (hgd : o.guard = none) (s : Operand) (t tn : TypeId) (x m q : Int)
    (ho : o.op = .call { callee := .builtin .min, args := #[s, .const (.int .i64 m)], argTypes := #[t, tn] }) (hs : a.eval s = .int .i64 x) (hq : (if m < x then m else x) = q) (h : K (a.put o.dst (.int .i64 q)) w) :
    if Region.wanted o (yielded ops a.tmps) = true then Oper.wp P o a w K Q else E := by
  have hw : Region.wanted o (yielded ops a.tmps) = true := by simp [Region.wanted, hgd]
  have hr : (execOp a.eval o).run P w = .ok (.value (.int .i64 q)) w := by
    have hm : a.eval (.const (.int .i64 m)) = .int .i64 m := rfl
    simp [execOp, ho, resolve, invoke, builtin, hs, hm, run_min_int2, Result.andThen, hq]
  rw [if_pos hw]
  unfold Oper.wp
  rw [hr]
  exact h
def fewS (ls : List (List Int)) : List (List Int) := (ls.take 20).map (·.take 50)
/-- An own row of slices that lay there before. -/
def FI (w W : World) (v : Value) (bs : List (List Int)) : Prop :=
  (∃ us : List Value, W.ownsRow w.heap.size 32 1 v bs.length us ∧ ∀ (i : Nat) (u : Value) (l : List Int), us[i]? = some u → bs[i]? = some l → BAt w u l) ∧ Below w.heap.size w W
theorem FI.toA {w W : World} {v : Value} {bs : List (List Int)} (h : FI w W v bs) : RowsA W v bs := by
  obtain ⟨⟨us, h1, h2⟩, hw⟩ := h
  rcases h1.2 with ⟨e, h0⟩ | ⟨g, cap, cur, e, hg, hh, _⟩
  · exact ⟨none, 0, by rw [e, h0], fun hp => by omega⟩
  · refine ⟨_, cap, e, fun hp => ⟨g, 0, rfl, (Array.getElem?_eq_some_iff.1 hh).1, fun i l hi => ?_⟩⟩
    have hl : us.length = bs.length := by have := h1.1; simpa using this
    have hi2 : i < us.length := by rw [hl]; exact (List.getElem?_eq_some_iff.1 hi).1
    have hu : us[i]? = some us[i] := List.getElem?_eq_getElem hi2
    refine ⟨us[i], ?_, (h2 i _ l hu hi).kept hw⟩
    have h3 := h1.cells (g := g) (by rw [e]; rfl) i _ hu
    rwa [show (⟨g, 0, none⟩ : Addr).add i = ⟨g, 0 + i, none⟩ from by unfold Addr.add; split <;> simp_all] at h3
theorem FI.step {w W : World} {v u : Value} {bs : List (List Int)} {l : List Int} (h : FI w W v bs) (hu : BAt w u l) (hu1 : u.oneCell' = true) (hn : bs.length ≤ 1000) :
    ∃ A n c W5, (Builtin.append_ #[60, 60] 60 #[v, .slice (some ⟨W.heap.size, 0, none⟩) 1 1]).run Try.prog (W.drew.alloc (.cells #[u] 32)) = .ok (.slice A n c) W5 ∧ FI w W5 (.slice A n c) (bs ++ [l]) := by
  obtain ⟨⟨us, h1, h2⟩, hw⟩ := h
  have hal : Below W.heap.size W (W.drew.alloc (.cells #[u] 32)) := ((Below.refl _ _).drew).trans (Jo.alloc_below W.drew _)
  have own3 : (W.drew.alloc (.cells #[u] 32)).ownsRow w.heap.size 32 1 v bs.length us := Oc.ownsRow_kept h1 (fun g hg => hal.block g (h1.lt g hg).2)
  obtain ⟨A, n, c, W5, hr, ho, hg5, _⟩ := app_row (u := u) own3 (by omega) (by have := hw.size; have := hal.size; omega) (block_new W.drew _) hu1
  refine ⟨A, n, c, W5, hr, ⟨us ++ [u], by rw [List.length_append]; exact ho, fun i x y hx hy => ?_⟩, (hw.trans (hal.mono hw.size)).grown hg5 (by have := hw.size; have := hal.size; omega) (fun k hk => (h1.lt k hk).1)⟩
  have hul : us.length = bs.length := by have := h1.1; simpa using this
  rw [List.getElem?_append] at hx hy
  split at hx
  · rename_i hi
    rw [if_pos (by omega)] at hy
    exact h2 i x y hx hy
  · rename_i hi
    rw [if_neg (by omega)] at hy
    have e3 : i - us.length = 0 := by
      have := (List.getElem?_eq_some_iff.1 hx).1
      simp at this; omega
    rw [e3] at hx
    rw [← hul, e3] at hy
    simp at hx hy
    subst hx hy
    exact hu
theorem few_snoc {ls : List (List Int)} {i : Nat} (h : i < ls.length) : (ls.take (i + 1)).map (·.take 50) = (ls.take i).map (·.take 50) ++ [(ls.getD i []).take 50] := by
  have e : ls.getD i [] = ls[i] := by simp [List.getD, List.getElem?_eq_getElem h]
  rw [List.take_succ_eq_append_getElem h, List.map_append, e]
  rfl
theorem take_min {l : List Int} {n q : Nat} (h : q = min l.length n) : l.take q = l.take n := by
  rw [h]
  rcases Nat.le_total l.length n with h1 | h1
  · rw [Nat.min_eq_left h1, List.take_length, List.take_of_length_le h1]
  · rw [Nat.min_eq_right h1]
set_option maxRecDepth 100000 in
set_option maxHeartbeats 4000000 in
theorem few_any (w : World) (A0 : Option Addr) (n0 c0 : Nat) (ls : List (List Int)) (h0 : PAt w (.slice A0 n0 c0) ls) :
    Calls Try.prog 50 #[.slice A0 n0 c0] w fun e w' => ∃ A n c, e = .returned (.slice A n c) ∧ RowsA w' (.slice A n c) (fewS ls) ∧ Below w.heap.size w w' := by
  obtain ⟨A', cap', he, _, hcl⟩ := h0
  cases he
  obtain ⟨n0, hn0⟩ : ∃ n0, n0 = ls.length := ⟨_, rfl⟩
  rw [← hn0] at hcl ⊢
  have HCL := Lib.hid hcl
  have HN0 := Lib.hid hn0
  clear hcl hn0
  go_enter Try.func50, Try.ntmps50
  go_wp2
  go_loopg [3, 4] 20 (fun (gh : Nat) s3 s4 wx => ∃ (i : Nat), gh = 20 - i ∧ i ≤ 20 ∧ i ≤ n0 ∧ s4 = .int .i64 (i : Int) ∧ Hid (FI w wx s3 ((ls.take i).map (·.take 50))))
  case atStart => exact ⟨0, rfl, Nat.zero_le _, Nat.zero_le _, rfl, ⟨[], by simpa using World.ownsRow_nil _ _ _ _, fun j u l hu => by simp at hu⟩, Below.refl _ _⟩
  case round =>
    obtain ⟨i, rfl, hi, hin, rfl, hI⟩ := hrel
    by_cases hlt : i < n0 ∧ i < 20
    · obtain ⟨hl1, hl2⟩ := hlt
      have t1 : (i : Int) < (n0 : Int) := by omega
      have t2 : (i : Int) < 20 := by omega
      have t3 : (0 : Int) ≤ (i : Int) := by omega
      obtain ⟨g, o, rfl, lg, hcell⟩ := HCL.out (by omega)
      obtain ⟨u, hu, hub⟩ := hcell i (by omega)
      obtain ⟨A2, c2, rfl, hc2, hcc⟩ := hub
      obtain ⟨n2, hn2⟩ : ∃ n2, n2 = (ls.getD i []).length := ⟨_, rfl⟩
      obtain ⟨q2, hq2⟩ : ∃ q2, q2 = min n2 50 := ⟨_, rfl⟩
      have hub : BAt w (.slice A2 (ls.getD i []).length c2) (ls.getD i []) := ⟨A2, c2, rfl, hc2, hcc⟩
      rw [← hn2] at hu hc2 hub
      have hmin2 : (if (50 : Int) < (n2 : Int) then 50 else (n2 : Int)) = (q2 : Int) := by split <;> omega
      have hmin3 : min (n2 : Int) 50 = (q2 : Int) := by omega
      have hs2 := slice_to A2 n2 c2 q2 (by omega)
      have hq : BAt w (.slice A2 q2 c2) ((ls.getD i []).take 50) := by
        rw [← take_min (q := q2) (by rw [← hn2]; exact hq2)]
        exact (hub.take q2 (by omega)).1
      have hil : i < ls.length := by rw [← HN0.out]; exact hl1
      obtain ⟨A5, n5, c5, w5, hrun, hfi⟩ := FI.step (u := .slice A2 q2 c2) hI.out hq rfl (by rw [List.length_map, List.length_take]; omega)
      rw [← few_snoc hil] at hfi
      have D0 : wr.cell? ⟨g, o + i, none⟩ = some (.slice A2 n2 c2) := (hI.out.2.cell (p := ⟨g, o + i, none⟩) lg).trans hu
      have D5 : w5.cell? ⟨g, o + i, none⟩ = some (.slice A2 n2 c2) := (hfi.2.cell (p := ⟨g, o + i, none⟩) lg).trans hu
      have HFI := Lib.hid hfi
      have HL := Lib.hid (And.intro hl1 hl2)
      clear hcell hu hcc hub hn2 hq2 hI hil hq hfi
      go_upto_region 5 with fail
      go_region_held3 (fun w' => w'.cell? ⟨g, o + i, none⟩ = some (.slice A2 n2 c2))
        (first
          | (exact D5)
          | (exact D0)
          | go_keep)
        (first
          | (refine step_min _ (by rfl) (.tmp 24) _ _ (n2 : Int) 50 (q2 : Int) (by rfl) (by rfl) hmin2 ?_)
          | (refine step_app_run _ (by rfl) (.tmp 15) (.tmp 27) 60 60 (by rfl) _ (.slice (some ⟨wr.heap.size, 0, none⟩) 1 1) (by rfl) (by rfl) (.slice A5 n5 c5) w5 hrun ?_))
      all_goals
        go_wp2
        go_roundg (20 - (i + 1))
      case measure => have := HL.out; omega
      case rel => exact ⟨i + 1, rfl, HL.out.2, HL.out.1, by go_num, HFI.out⟩
    · have hfe : (ls.take i).map (·.take 50) = fewS ls := by
        unfold fewS
        rcases (by omega : i = 20 ∨ i = n0) with h5 | h5
        · rw [h5]
        · have := HN0.out
          rw [List.take_of_length_le (by omega), List.take_of_length_le (by omega)]
      rw [hfe] at hI
      have HA := Lib.hid hI.out.toA
      have HB := Lib.hid hI.out.2
      obtain ⟨Ar, cr, er, _⟩ := hI.out.toA
      obtain ⟨nr, hnr⟩ : ∃ nr, nr = (fewS ls).length := ⟨_, rfl⟩
      rw [← hnr] at er
      subst er
      have hcases : (¬ (i : Int) < (n0 : Int)) ∨ ((i : Int) < (n0 : Int) ∧ ¬ (i : Int) < 20) := by omega
      clear hfe hI hlt hnr
      rcases hcases with t1 | ⟨t1, t2⟩
      all_goals
        go_wp2
        go_ret
        exact ⟨Ar, nr, cr, rfl, HA.out, HB.out⟩
end Go.Proofs.Ytklngdmpledgeaa.Sp
