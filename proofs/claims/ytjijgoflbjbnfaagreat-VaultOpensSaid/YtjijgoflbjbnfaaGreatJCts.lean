/-
  The contract of the reference's Counts. Conditions: at most six hundred bytes.
-/
import Derived.Test.YtjijgoflbjbnfaaGreatVM36
namespace Go.Proofs.YtjijgoflbjbnfaaGreat.Jo
open Go.RowKit Fr Sr
attribute [local go_sem] Oper.semAt_some

theorem step_app_run {P : Program} (w : World) {ops : Array Oper} {o : Oper} {a : Act} {K : Act → World → Prop} {Q : Exit → Act → World → Prop} {E : Prop} (hgd : o.guard = none) (s x : Operand) (t tn : TypeId)
    (ho : o.op = .call { callee := .builtin .append, args := #[s, x], argTypes := #[t, tn] }) (vs vx : Value) (hs : a.eval s = vs) (hx : a.eval x = vx)
    (v' : Value) (w' : World) (hr : (Builtin.append_ #[t, tn] o.type #[vs, vx]).run P w = .ok v' w') (h : K (a.put o.dst v') w') :
    if Region.wanted o (yielded ops a.tmps) = true then Oper.wp P o a w K Q else E := by
  have hw : Region.wanted o (yielded ops a.tmps) = true := by simp [Region.wanted, hgd]
  rw [if_pos hw]
  exact Lib.wp_append_run w s x t tn ho vs vx hs hx v' w' hr h
/-- A row of one's own with records whose bytes lie in w. -/
def RecB (w0 w W : World) (v : Value) (rs : List Re) : Prop := ∃ us, W.ownsRow w.heap.size 89 2 v rs.length us ∧ ∀ (i : Nat) (r : Re), rs[i]? = some r → ∃ u, us[i * 2]? = some (.int .i64 (r.1 : Int)) ∧ us[i * 2 + 1]? = some u ∧ BAt w0 u r.2
theorem RecB.nil (w0 w W : World) : RecB w0 w W (.slice none 0 0) [] := ⟨[], World.ownsRow_nil _ _ _ _, fun i r hi => by simp at hi⟩
theorem RecB.toA {w0 w W : World} {v : Value} {rs : List Re} (h : RecB w0 w W v rs) (hb : Below w0.heap.size w0 W) : RecA W v rs := by
  obtain ⟨us, h1, h2⟩ := h
  rcases h1.2 with ⟨e, h0⟩ | ⟨g, cap, cur, e, hg, hh, _⟩
  · exact ⟨none, 0, by rw [e, h0], fun hp => by omega⟩
  · refine ⟨_, cap, e, fun hp => ⟨g, 0, rfl, (Array.getElem?_eq_some_iff.1 hh).1, fun i r hi => ?_⟩⟩
    obtain ⟨u, a1, a2, a3⟩ := h2 i r hi
    refine ⟨u, ?_, ?_, a3.kept hb⟩
    · have h3 := h1.cells (g := g) (by rw [e]; rfl) _ _ a1
      rwa [add_off] at h3
    · have h3 := h1.cells (g := g) (by rw [e]; rfl) _ _ a2
      rwa [add_off] at h3
/-- One record behind the others. -/
theorem app_recb {w0 w W : World} {v u : Value} {rs : List Re} {r : Re} (h : RecB w0 w W v rs) (hw : Below w.heap.size w W) (hn : rs.length ≤ 1000) (hu : u.oneCell' = true) (hb : BAt w0 u r.2) :
    ∃ A' n' c' w', (Builtin.append_ #[85, 85] 85 #[v, .slice (some ⟨W.heap.size, 0, none⟩) 1 1]).run Tryz.prog (W.alloc (.cells #[.int .i64 (r.1 : Int), u] 89)) = .ok (.slice A' n' c') w' ∧ RecB w0 w w' (.slice A' n' c') (rs ++ [r]) ∧ Below w.heap.size w w' ∧ Off (fun i => v.ownBlock = some i) W w' ∧ ∀ i, (Value.slice A' n' c').ownBlock = some i → v.ownBlock = some i ∨ W.heap.size ≤ i := by
  obtain ⟨us, h1, h2⟩ := h
  obtain ⟨i0, hi0, hz0, hz1, hz2⟩ := info_parts recInf
  have hal := alloc_below W (.cells #[.int .i64 (r.1 : Int), u] 89)
  have hown := Oc.ownsRow_kept h1 (fun g hg => hal.block g (h1.lt g hg).2)
  have hblk := block_new W (.cells #[.int .i64 (r.1 : Int), u] 89)
  obtain ⟨v', w', hr, ho, hgr, _, hat⟩ := run_append_own_at (P := Tryz.prog) _ w.heap.size 85 85 89 i0 _ 2 32 Tryz.underlying85 hi0 hz0 hz1 hz2 rfl (by decide) v rs.length us hown ⟨W.heap.size, 0, none⟩ 1 1 [.int .i64 (r.1 : Int), u] rfl (World.news_of_block (cs := #[.int .i64 (r.1 : Int), u]) hblk) (by simp [hu]; rfl) (by unfold maxLen; omega) (by omega) (by have := hw.size; have := hal.size; omega)
  obtain ⟨A, m, c, rfl⟩ : ∃ A n c, v' = .slice A n c := by
    rcases ho.2 with ⟨h7, _⟩ | ⟨g, cap, cur, h7, _⟩
    · exact ⟨none, 0, 0, h7⟩
    · exact ⟨_, _, _, h7⟩
  have hul : us.length = rs.length * 2 := h1.1
  refine ⟨A, m, c, w', hr, ⟨us ++ [.int .i64 (r.1 : Int), u], by rw [List.length_append]; exact ho, fun i q hi => ?_⟩, ?_, ?_, ?_⟩
  · rw [List.getElem?_append] at hi
    split at hi
    · rename_i hlt
      obtain ⟨y, a1, a2, a3⟩ := h2 i q hi
      exact ⟨y, by rw [List.getElem?_append_left (by omega)]; exact a1, by rw [List.getElem?_append_left (by omega)]; exact a2, a3⟩
    · rename_i hlt
      have e3 : i - rs.length = 0 := by
        have := (List.getElem?_eq_some_iff.1 hi).1
        simp at this; omega
      rw [e3] at hi
      simp at hi
      subst hi
      have e4 : i = rs.length := by omega
      subst e4
      refine ⟨u, ?_, ?_, hb⟩
      · rw [List.getElem?_append_right (by omega)]
        have : rs.length * 2 - us.length = 0 := by omega
        rw [this]; rfl
      · rw [List.getElem?_append_right (by omega)]
        have : rs.length * 2 + 1 - us.length = 1 := by omega
        rw [this]; rfl
  · have hb2 : Below w.heap.size w (W.alloc (.cells #[.int .i64 (r.1 : Int), u] 89)) := hw.trans (hal.mono hw.size)
    exact hb2.grown hgr hb2.size (fun i e => (hown.lt i e).1)
  · exact off_two (Off.of_below (fun _ => False) hal) (Off.of_grown (T := fun i => v.ownBlock = some i) hgr fun i e => e) (fun _ e => e.elim) (fun _ e => .inl e)
  · intro i hi
    rcases hat with h2 | h2
    · exact .inl (h2.symm.trans hi)
    · rw [h2] at hi; cases hi; exact .inr hal.size
/-- While the reference counts. -/
def CtI (w0 w1 : World) (L : List Int) (i z : Nat) (v : Value) (W : World) : Prop := ∃ cs, CQ L i cs ∧ z = whole cs ∧ RecB w0 w1 W v (recs cs) ∧ Below w1.heap.size w1 W
/-- What Counts tells. -/
def CtR (w0 w w' : World) (L : List Int) (e : Ending) : Prop := ∃ A n c, e = .returned (.tuple #[.slice A n c, .int .i64 (whole (cnt L) : Int)]) ∧ RecB w0 w w' (.slice A n c) (recs (cnt L))
theorem allF_small (L : List Int) (h : L.length ≤ 600) : (allF L).length ≤ 600 := Nat.le_trans (allF_len L) h
theorem recB_below {w0 w1 W W' : World} {v : Value} {rs : List Re} (h : RecB w0 w1 W v rs) (hb : Below W.heap.size W W') : RecB w0 w1 W' v rs := by
  obtain ⟨us, h1, h2⟩ := h
  exact ⟨us, Oc.ownsRow_kept h1 (fun g hg => hb.block g (h1.lt g hg).2), h2⟩
theorem wrap_sub1 {n i : Nat} (h : n = i + 1) (hn : n ≤ 1000) : IntKind.i64.wrap ((n : Int) - 1) = (i : Int) := by rw [IntKind.wrap_i64]; omega
theorem wrap_add1 {x z : Nat} (h : z = x + 1) (hx : x ≤ 4611686018427387903) : IntKind.i64.wrap ((x : Int) + 1) = (z : Int) := by rw [IntKind.wrap_i64]; omega
theorem recs_last {cs : List Rc} {k : Nat} (h : cs.length = k + 1) : ∃ r, (recs cs)[k]? = some r ∧ nxt cs = r.1 + 1 := by
  have h1 : cs.getLast? = cs[k]? := by rw [List.getLast?_eq_getElem?, h]; rfl
  have h2 : cs[k]? = some cs[k] := List.getElem?_eq_getElem (by omega)
  refine ⟨cs[k].2, by unfold recs; rw [List.getElem?_map, h2]; rfl, ?_⟩
  unfold nxt
  rw [h1, h2]
/-- What the reference's Count leaves, and tells. -/
def CoR (wr : World) (_q : Nat) (_er cN m1 : Nat) (E : Int) (e : Ending) (w' : World) : Prop := e = .returned (.int .i64 (cN : Int)) ∧ w'.cell? ⟨wr.heap.size, 2, none⟩ = some (.int .i64 E) ∧ w'.cell? ⟨wr.heap.size, 1, none⟩ = some (.int .i64 (m1 : Int)) ∧ Below wr.heap.size wr w'
theorem rct_at {wr : World} {Au : Option Addr} {q cu : Nat} {D : List Int} (hu : BAt wr (.slice Au q cu) D) (hb : bok D) (hq : D.length ≤ 2000000) :
    ∃ (E : Int) (cN m1 : Nat), (E = 0 ↔ dec D ≠ none) ∧ (∀ y, dec D = some y → cN = y.1 ∧ m1 ≤ D.length ∧ D.drop m1 = y.2) ∧
      Calls Tryz.prog 71 #[.pointer (some ⟨wr.heap.size, 0, none⟩), .int .i64 4611686018427387903] (wr.alloc (.cells #[.slice Au q cu, .int .i64 0, .int .i64 0] 127)) fun e w' => e = .returned (.int .i64 (cN : Int)) ∧ w'.cell? ⟨wr.heap.size, 2, none⟩ = some (.int .i64 E) ∧ w'.cell? ⟨wr.heap.size, 1, none⟩ = some (.int .i64 (m1 : Int)) ∧ Below wr.heap.size wr w' := by
  have hal := alloc_below wr (.cells #[.slice Au q cu, .int .i64 0, .int .i64 0] 127)
  have hQ : Sp.Qd (wr.alloc (.cells #[.slice Au q cu, .int .i64 0, .int .i64 0] 127)) wr.heap.size 0 0 D :=
    ⟨Au, q, cu, block_new _ _, hu.kept hal, fun hp a n c e => Sp.bat_lt hu hp e, hb, hq, Nat.zero_le _⟩
  have hc := Sp.qcount_any hQ 4611686018427387903 (by decide)
  rw [List.drop_zero] at hc
  have hdr := Sp.qcnt_drop (D := D) (m := 0) (most := 4611686018427387903) hb (Nat.zero_le _)
  rw [List.drop_zero] at hdr
  refine ⟨(Sp.qcnt 4611686018427387903 D).1, (Sp.qcnt 4611686018427387903 D).2.1, (if (Sp.qcnt 4611686018427387903 D).1 = 0 then D.length - (Sp.qcnt 4611686018427387903 D).2.2.length else 0), dec_qcnt D, fun y hy => ?_, hc.mono ?_⟩
  · have e := dec_some hy
    rw [e] at hdr ⊢
    simp only [if_true] at hdr ⊢
    exact ⟨trivial, hdr⟩
  · rintro e w' ⟨rfl, hq2⟩
    have h1 := Sp.qd_cells hq2.st
    exact ⟨rfl, h1.2.1, h1.1, hal.grown hq2.gr hal.size (fun k e => by cases e; exact Nat.le_refl _)⟩
theorem app_rd {w0 w1 wr w2 : World} {v u : Value} {rs : List Re} {r : Re} {x : Value} (hro : RecB w0 w1 wr v rs) (hbx : Below w1.heap.size w1 wr) (hb2 : Below wr.heap.size wr w2) (hc : w2.cell? ⟨wr.heap.size, 1, none⟩ = some x) (hn : rs.length ≤ 1000) (hu : u.oneCell' = true) (hb : BAt w0 u r.2) :
    ∃ A' n' c' w', (Builtin.append_ #[85, 85] 85 #[v, .slice (some ⟨w2.heap.size, 0, none⟩) 1 1]).run Tryz.prog (w2.alloc (.cells #[.int .i64 (r.1 : Int), u] 89)).drew = .ok (.slice A' n' c') w' ∧ RecB w0 w1 w' (.slice A' n' c') (rs ++ [r]) ∧ Below w1.heap.size w1 w' ∧ w'.cell? ⟨wr.heap.size, 1, none⟩ = some x := by
  have hd : Below w2.heap.size w2 w2.drew := (Below.refl _ _).drew
  have hro2 := recB_below (recB_below hro hb2) hd
  have hbx2 := hbx.trans ((hb2.trans (hd.mono hb2.size)).mono hbx.size)
  obtain ⟨A', n', c', w', h1, h2, h3, h4, _⟩ := app_recb (r := r) hro2 hbx2 hn hu hb
  refine ⟨A', n', c', w', h1, h2, h3, ?_⟩
  obtain ⟨us, h5, _⟩ := hro
  have hlt : wr.heap.size < w2.heap.size := by
    unfold World.cell? at hc
    rcases Nat.lt_or_ge wr.heap.size w2.heap.size with h | h
    · exact h
    · simp [Array.getElem?_eq_none h] at hc
  have h6 := h4.2 wr.heap.size hlt (fun e => by have := (h5.lt _ e).2; omega)
  rw [← hc]
  unfold World.cell?
  rw [show (⟨wr.heap.size, 1, none⟩ : Addr).block = wr.heap.size from rfl, h6]
  rfl
theorem ctR_mk {w0 w w1 W W' : World} {L : List Int} {cs : List Rc} {i z co : Nat} {Ao : Option Addr} (hcnt : cnt L = cs) (hz : z = whole cs) (hro : RecB w0 w1 W (.slice Ao i co) (recs cs)) (hbx : Below w1.heap.size w1 W) (hb2 : Below W.heap.size W W') (hbw : Below w.heap.size w w1) :
    CtR w0 w W' L (.returned (.tuple #[.slice Ao i co, .int .i64 (z : Int)])) ∧ Below w.heap.size w W' := by
  have h1 := hbx.trans (hb2.mono hbx.size)
  refine ⟨⟨Ao, i, co, ?_, ?_⟩, hbw.trans (h1.mono hbw.size)⟩
  · rw [hcnt, ← hz]
  · rw [hcnt]
    obtain ⟨us, h2, h3⟩ := recB_below hro hb2
    exact ⟨us, ⟨h2.1, h2.2.imp id (fun ⟨g, cap, cur, e, hg, r⟩ => ⟨g, cap, cur, e, Nat.le_trans hbw.size hg, r⟩)⟩, h3⟩
set_option maxRecDepth 100000 in
set_option maxHeartbeats 8000000 in
theorem rcounts_any (w0 w : World) (h0 : Below w0.heap.size w0 w) (A : Option Addr) (m c : Nat) (L : List Int) (hL : BAt w0 (.slice A m c) L) (hb : bok L) (hm : m ≤ 600) :
    Calls Tryz.prog 47 #[.slice A m c] w fun e w' => CtR w0 w w' L e ∧ Below w.heap.size w w' := by
  have hlm := hL.len.1
  have HLM : Hid (L.length ≤ 600) := Lib.hid (by omega)
  have HA := Lib.hid (rall0 w0 w h0 A m c L hL hb (by omega))
  have hk0 := allF_small L (by omega)
  obtain ⟨k, hk⟩ : ∃ k, k = (allF L).length := ⟨_, rfl⟩
  rw [← hk] at hk0
  have HK := Lib.hid hk
  have H0 := Lib.hid h0
  clear hL hk hlm h0
  go_enter Tryz.func47, Tryz.ntmps47
  go_upto_region 4 with (first
    | (go_at_call 74; (with_reducible refine HA.out.mono ?_); rintro e w1 ⟨v1, v2, us, q, rfl, hra⟩
       obtain ⟨Al, nl, cl, rfl⟩ : ∃ A n c, v2 = Value.slice A n c := by
         rcases hra.rows.2 with ⟨h7, _⟩ | ⟨g, cap, cur, h7, _⟩
         · exact ⟨none, 0, 0, h7⟩
         · exact ⟨_, _, _, h7⟩
       have HRA := Lib.hid hra
       clear hra))
  have hne1 : RecB w0 w1 w1 (.slice none 0 0) [] := RecB.nil _ _ _
  have hbw := HRA.out.bel
  have hrl := (HRA.out.rows.1 : us.length = (allF L).length * 1)
  obtain ⟨hnl, hcl⟩ : nl = k ∧ ∀ i x, (allF L)[i]? = some x → ∃ g, Al = some ⟨g, 0, none⟩ ∧ g < w1.heap.size ∧ ∃ u, w1.cell? ⟨g, 0 + i, none⟩ = some u ∧ BAt w0 u x.2 ∧ u.oneCell' = true := by
    rcases HRA.out.rows.2 with ⟨h7, h8⟩ | ⟨g, cap, cur, h7, hg, hh, _⟩
    · cases h7
      refine ⟨by have := HK.out; omega, fun i x hx => ?_⟩
      have := (List.getElem?_eq_some_iff.1 hx).1
      omega
    · cases h7
      refine ⟨HK.out.symm, fun i x hx => ⟨g, rfl, (Array.getElem?_eq_some_iff.1 hh).1, ?_⟩⟩
      have hi2 : i < us.length := by have := (List.getElem?_eq_some_iff.1 hx).1; omega
      have hu : us[i]? = some us[i] := List.getElem?_eq_getElem hi2
      have hb9 := HRA.out.bat i _ hu
      have e9 : (allF L).getD i (0, []) = x := by simp [List.getD, hx]
      rw [e9] at hb9
      refine ⟨us[i], ?_, hb9, ?_⟩
      · have h3 := HRA.out.rows.cells (g := g) rfl i _ hu
        rwa [show (⟨g, 0, none⟩ : Addr).add i = ⟨g, 0 + i, none⟩ from by unfold Addr.add; split <;> simp_all] at h3
      · obtain ⟨_, _, e10, _⟩ := hb9
        rw [e10]; rfl
  subst hnl
  have HCL := Lib.hid hcl
  have HBW := Lib.hid hbw
  have HI0 : Hid (CtI w0 w1 L 0 0 (.slice none 0 0) w1) := Lib.hid ⟨[], CQ.nil L, rfl, hne1, Below.refl _ _⟩
  clear hne1 hbw hrl hcl
  go_wp2
  go_loopg [6, 7, 8] nl (fun (gh : Nat) s6 s7 s8 wx => ∃ (i z : Nat), gh = nl - i ∧ i ≤ nl ∧ s7 = .int .i64 (z : Int) ∧ s8 = .int .i64 (i : Int) ∧ Hid (CtI w0 w1 L i z s6 wx))
  case atStart => exact ⟨0, 0, rfl, Nat.zero_le _, rfl, rfl, HI0.out⟩
  case round =>
    clear HI0
    obtain ⟨i, z, rfl, hi, rfl, rfl, HI⟩ := hrel
    obtain ⟨cs, hci, hz, hro, hbx⟩ := HI.out
    obtain ⟨Ao, co, eo, hcells⟩ := hro.toA (H0.out.trans (HBW.out.mono H0.out.size |>.trans (hbx.mono (Nat.le_trans H0.out.size HBW.out.size))))
    rw [show (recs cs).length = i by rw [← hci.len]; simp [recs]] at eo hcells
    subst eo
    have HCI := Lib.hid hci
    have HRO := Lib.hid hro
    have HBX := Lib.hid hbx
    have HZ := Lib.hid hz
    by_cases hlt : i < nl
    · have t1 : (i : Int) < (nl : Int) := by omega
      have t0 : (0 : Int) ≤ (i : Int) := by omega
      obtain ⟨x, hx⟩ : ∃ x, (allF L)[i]? = some x := ⟨_, List.getElem?_eq_getElem (by have := HK.out; omega)⟩
      have hsp : allF L = (allF L).take i ++ x :: (allF L).drop (i + 1) := by rw [← drop_get hx, List.take_append_drop]
      have hfit := AtP.fit hsp
      have hbx2 : bok x.2 := fits_bok hb hsp
      obtain ⟨gl, rfl, hgl, u, hcu, hbu, hu1⟩ := HCL.out i x hx
      obtain ⟨Au, cu, eu, _⟩ := id hbu
      obtain ⟨q, hq⟩ : ∃ q, q = x.2.length := ⟨_, rfl⟩
      rw [← hq] at eu
      subst eu
      have c1 : wr.cell? ⟨gl, 0 + i, none⟩ = some (.slice Au q cu) := (hbx.cell (p := ⟨gl, 0 + i, none⟩) hgl).trans hcu
      rw [Nat.zero_add] at c1
      have hbwr : BAt wr (.slice Au q cu) x.2 := hbu.kept (H0.out.trans (HBW.out.mono H0.out.size |>.trans (hbx.mono (Nat.le_trans H0.out.size HBW.out.size))))
      have hqs : q + 8 ≤ 600 ∧ z ≤ 600 := by
        have h1 := hfit.2.1
        have h2 := hfit.2.2
        have h3 := hci.pos
        have h4 := HLM.out
        omega
      obtain ⟨E, cN, m1, hE, hY, hC⟩ := rct_at hbwr hbx2 (by omega)
      have HC := Lib.hid hC
      have HX := Lib.hid hx
      have HB1 := Lib.hid hbu
      have HE := Lib.hid hE
      have HY := Lib.hid hY
      have HQ := Lib.hid hq
      have hgl2 : gl < wr.heap.size := Nat.lt_of_lt_of_le hgl hbx.size
      have hsafe : ∀ k, k < wr.heap.size → True := fun _ _ => trivial
      clear hsafe hC hx hsp hfit hbx2 hcu hbu hu1 hbwr hE hY hci hz hbx hro hq
      have HGL : Hid (gl < w1.heap.size) := Lib.hid hgl
      have HI2 : Hid (i < nl ∧ nl ≤ 600) := Lib.hid ⟨hlt, hk0⟩
      obtain ⟨hq6, hz6⟩ := hqs
      rcases Nat.eq_zero_or_pos i with hi0 | hi0
      · subst hi0
        clear hcells
        by_cases hE0 : E = 0
        · subst hE0
          obtain ⟨y, hy⟩ := Option.ne_none_iff_exists'.1 (HE.out.1 rfl)
          obtain ⟨hy1, hy2, hy3⟩ := HY.out y hy
          have hqc := HB1.out.len.2
          obtain ⟨A2, hA2, hsl⟩ := slice_from Au q cu m1 (by rw [HQ.out]; exact hy2) hqc
          have hyb := HB1.out.from m1 hA2 (by rw [HQ.out]; exact hy2)
          rw [hy3] at hyb
          obtain ⟨q2, hq2⟩ : ∃ q2, q2 = q - m1 := ⟨_, rfl⟩
          obtain ⟨c2, hc2⟩ : ∃ c2, c2 = cu - m1 := ⟨_, rfl⟩
          rw [← hq2, ← hc2] at hsl hyb
          have HYB := Lib.hid hyb
          have HYC : Hid (y.1 = cN) := Lib.hid hy1.symm
          have HYD := Lib.hid hy
          have C0 : Hid (w1.cell? ⟨gl, 0, none⟩ = some (.slice Au q cu)) := Lib.hid ((HBX.out.cell (p := ⟨gl, 0, none⟩) HGL.out).symm.trans c1)
          clear hy hy1 hy2 hy3 hqc hA2 hyb hq2 hc2
          go_upto_region 9 with (first
              | (go_at_call 71; (with_reducible refine HC.out.mono ?_); rintro e w2 ⟨rfl, d2, d1, hb2⟩
                 have c1' : w2.cell? ⟨gl, 0, none⟩ = some (.slice Au q cu) := (hb2.cell (p := ⟨gl, 0, none⟩) hgl2).trans c1
                 skip
                 have HB2 := Lib.hid hb2
                 clear hb2))
          obtain ⟨A5, n5, c5, w5, hrun, hro5, hbw5, e2⟩ := app_rd (r := y) (u := .slice A2 q2 c2) HRO.out HBX.out HB2.out d1 (by show (recs cs).length ≤ 1000; have := HCI.out.len; have := HI2.out; simp only [recs, List.length_map]; omega) rfl HYB.out
          rw [HYC.out] at hrun
          have HRO5 := Lib.hid hro5
          have HBW5 := Lib.hid hbw5
          have e1 : w5.cell? ⟨gl, 0, none⟩ = some (.slice Au q cu) := (hbw5.cell (p := ⟨gl, 0, none⟩) HGL.out).trans C0.out
          clear hro5 hbw5
          go_upto_region 11 with fail
          go_region_held3 (fun w' => w'.cell? ⟨gl, 0, none⟩ = some (.slice Au q cu) ∧ w'.cell? ⟨wr.heap.size, 1, none⟩ = some (.int .i64 (m1 : Int)))
            (first
              | (exact ⟨e1, e2⟩)
              | go_keep)
            (first
              | (refine step_app_run _ (by rfl) (.tmp 54) (.tmp 66) 85 85 (by rfl) _ (.slice (some ⟨w2.heap.size, 0, none⟩) 1 1) (by rfl) (by rfl) (.slice A5 n5 c5) w5 hrun ?_))
          all_goals
            go_wp2
            go_roundg (nl - (0 + 1))
          case measure => have := HI2.out; omega
          case rel =>
            have hp := HCI.out.pos0 HX.out
            refine ⟨0 + 1, z + q + 8, rfl, HI2.out.1, by go_num, by go_num, Lib.hid ⟨cs ++ [(x.1 + x.2.length + 8, y)], HCI.out.next HX.out HYD.out (.inl rfl), ?_, ?_, HBW5.out⟩⟩
            · rw [whole_snoc]
              show _ = x.1 + x.2.length + 8
              rw [hp.1, ← HZ.out, ← HQ.out]
            · rw [recs_snoc]
              exact HRO5.out
        · clear hq6 hz6
          go_wp2_with (first
              | (go_at_call 71; (with_reducible refine HC.out.mono ?_); rintro e w2 ⟨rfl, d2, d1, hb2⟩
                 have c1' : w2.cell? ⟨gl, 0, none⟩ = some (.slice Au q cu) := (hb2.cell (p := ⟨gl, 0, none⟩) hgl2).trans c1
                 skip
                 have HB2 := Lib.hid hb2
                 clear hb2))
          go_ret2
          exact ctR_mk (HCI.out.none HX.out (Classical.byContradiction fun h => hE0 (HE.out.2 h))) HZ.out HRO.out HBX.out HB2.out HBW.out
      · have t7 : (0 : Int) < (i : Int) := by omega
        by_cases hE0 : E = 0
        · subst hE0
          obtain ⟨go, oo, rfl, hgo, hcell⟩ := hcells hi0
          obtain ⟨k, hik⟩ : ∃ k, i = k + 1 := ⟨i - 1, by omega⟩
          obtain ⟨r0, hr0, hnx⟩ := recs_last (HCI.out.len.trans hik)
          obtain ⟨_, c3, _⟩ := hcell k r0 hr0
          have hle := HCI.out.le r0 (List.mem_of_getElem? hr0)
          obtain ⟨pv, hpv⟩ : ∃ pv, pv = r0.1 := ⟨_, rfl⟩
          rw [← hpv] at c3 hle hnx
          obtain ⟨nx, hnx2⟩ : ∃ nx, nx = nxt cs := ⟨_, rfl⟩
          have hnx3 : nx = pv + 1 := hnx2.trans hnx
          have hw1 := wrap_sub1 hik (by omega)
          have hw2 := wrap_add1 hnx3 hle
          have t5 : (k : Int) < (i : Int) := by clear hcell hcells; omega
          have t6 : (0 : Int) ≤ (k : Int) := by omega
          have HNX := Lib.hid hnx2
          have HI0P := Lib.hid hi0
          clear hcell hcells hr0 hik hpv hnx hnx2 hnx3 hi0
          by_cases hc : cN = nx
          · subst hc
            have HWY : ∀ y, dec x.2 = some y → y.1 = nxt cs := fun y hy => (HY.out y hy).1.symm.trans HNX.out
            have HWY := Lib.hid HWY
            obtain ⟨y, hy⟩ := Option.ne_none_iff_exists'.1 (HE.out.1 rfl)
            obtain ⟨hy1, hy2, hy3⟩ := HY.out y hy
            have hqc := HB1.out.len.2
            obtain ⟨A2, hA2, hsl⟩ := slice_from Au q cu m1 (by rw [HQ.out]; exact hy2) hqc
            have hyb := HB1.out.from m1 hA2 (by rw [HQ.out]; exact hy2)
            rw [hy3] at hyb
            obtain ⟨q2, hq2⟩ : ∃ q2, q2 = q - m1 := ⟨_, rfl⟩
            obtain ⟨c2, hc2⟩ : ∃ c2, c2 = cu - m1 := ⟨_, rfl⟩
            rw [← hq2, ← hc2] at hsl hyb
            have HYB := Lib.hid hyb
            have HYC : Hid (y.1 = cN) := Lib.hid hy1.symm
            have HYD := Lib.hid hy
            have C0 : Hid (w1.cell? ⟨gl, i, none⟩ = some (.slice Au q cu)) := Lib.hid ((HBX.out.cell (p := ⟨gl, i, none⟩) HGL.out).symm.trans c1)
            clear hy hy1 hy2 hy3 hqc hA2 hyb hq2 hc2
            go_upto_region 9 with (first
                | (go_at_call 71; (with_reducible refine HC.out.mono ?_); rintro e w2 ⟨rfl, d2, d1, hb2⟩
                   have c1' : w2.cell? ⟨gl, i, none⟩ = some (.slice Au q cu) := (hb2.cell (p := ⟨gl, i, none⟩) hgl2).trans c1
                   have c3' : w2.cell? ⟨go, oo + k * 2, none⟩ = some (.int .i64 (pv : Int)) := (hb2.cell (p := ⟨go, oo + k * 2, none⟩) hgo).trans c3
                   have HB2 := Lib.hid hb2
                   clear hb2))
            obtain ⟨A5, n5, c5, w5, hrun, hro5, hbw5, e2⟩ := app_rd (r := y) (u := .slice A2 q2 c2) HRO.out HBX.out HB2.out d1 (by show (recs cs).length ≤ 1000; have := HCI.out.len; have := HI2.out; simp only [recs, List.length_map]; omega) rfl HYB.out
            rw [HYC.out] at hrun
            have HRO5 := Lib.hid hro5
            have HBW5 := Lib.hid hbw5
            have e1 : w5.cell? ⟨gl, i, none⟩ = some (.slice Au q cu) := (hbw5.cell (p := ⟨gl, i, none⟩) HGL.out).trans C0.out
            clear hro5 hbw5
            go_upto_region 11 with fail
            go_region_held3 (fun w' => w'.cell? ⟨gl, i, none⟩ = some (.slice Au q cu) ∧ w'.cell? ⟨wr.heap.size, 1, none⟩ = some (.int .i64 (m1 : Int)))
              (first
                | (exact ⟨e1, e2⟩)
                | go_keep)
              (first
                | (refine step_app_run _ (by rfl) (.tmp 54) (.tmp 66) 85 85 (by rfl) _ (.slice (some ⟨w2.heap.size, 0, none⟩) 1 1) (by rfl) (by rfl) (.slice A5 n5 c5) w5 hrun ?_))
            all_goals
              go_wp2
              go_roundg (nl - (i + 1))
            case measure => have := HI2.out; omega
            case rel =>
              have hp := HCI.out.pos0 HX.out
              refine ⟨i + 1, z + q + 8, rfl, HI2.out.1, by go_num, by go_num, Lib.hid ⟨cs ++ [(x.1 + x.2.length + 8, y)], HCI.out.next HX.out HYD.out (.inr (HWY.out y HYD.out)), ?_, ?_, HBW5.out⟩⟩
              · rw [whole_snoc]
                show _ = x.1 + x.2.length + 8
                rw [hp.1, ← HZ.out, ← HQ.out]
              · rw [recs_snoc]
                exact HRO5.out
          · have t8 : ¬ (cN : Int) = (nx : Int) := by omega
            obtain ⟨y, hy⟩ := Option.ne_none_iff_exists'.1 (HE.out.1 rfl)
            have HYD := Lib.hid hy
            have HNE : Hid (y.1 ≠ nxt cs) := Lib.hid (fun e => hc ((HY.out y hy).1.trans (e.trans HNX.out.symm)))
            clear hy hq6 hz6 hc
            go_wp2_with (first
                | (go_at_call 71; (with_reducible refine HC.out.mono ?_); rintro e w2 ⟨rfl, d2, d1, hb2⟩
                   have c1' : w2.cell? ⟨gl, i, none⟩ = some (.slice Au q cu) := (hb2.cell (p := ⟨gl, i, none⟩) hgl2).trans c1
                   have c3' : w2.cell? ⟨go, oo + k * 2, none⟩ = some (.int .i64 (pv : Int)) := (hb2.cell (p := ⟨go, oo + k * 2, none⟩) hgo).trans c3
                   have HB2 := Lib.hid hb2
                   clear hb2))
            go_ret2
            exact ctR_mk (HCI.out.bad HX.out HYD.out HI0P.out HNE.out) HZ.out HRO.out HBX.out HB2.out HBW.out
        · clear hq6 hz6 hcells
          go_wp2_with (first
              | (go_at_call 71; (with_reducible refine HC.out.mono ?_); rintro e w2 ⟨rfl, d2, d1, hb2⟩
                 have c1' : w2.cell? ⟨gl, i, none⟩ = some (.slice Au q cu) := (hb2.cell (p := ⟨gl, i, none⟩) hgl2).trans c1
                 skip
                 have HB2 := Lib.hid hb2
                 clear hb2))
          go_ret2
          exact ctR_mk (HCI.out.none HX.out (Classical.byContradiction fun h => hE0 (HE.out.2 h))) HZ.out HRO.out HBX.out HB2.out HBW.out
    · have hil : i = nl := by omega
      subst hil
      have t1 : ¬ (i : Int) < (i : Int) := by omega
      clear hlt hcells hci hz hbx hro
      go_wp2
      go_ret2
      exact ctR_mk (HCI.out.fin (Nat.le_of_eq HK.out.symm)) HZ.out HRO.out HBX.out (Below.refl _ _) HBW.out
end Go.Proofs.YtjijgoflbjbnfaaGreat.Jo
