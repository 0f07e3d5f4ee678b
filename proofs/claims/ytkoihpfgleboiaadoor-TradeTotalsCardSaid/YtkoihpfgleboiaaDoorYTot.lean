/-
  The contract of trade's Total. Conditions: at most a thousand trades, quantities and prices of 64 bits.
-/
import Derived.Test.YtkoihpfgleboiaaDoorYVal
import Derived.Test.YtkoihpfgleboiaaDoorFixB
import Derived.Laws.MakeOwn
import Derived.Deep.AppendLies
namespace Go.Proofs.YtkoihpfgleboiaaDoor.Td
open Go.RowKit

/-- Trades in memory. -/
def TrsR (w : World) (A : Option Addr) (ts : List Tr) : Prop := ts = [] ∨ ∃ g o, A = some ⟨g, o, none⟩ ∧ g < w.heap.size ∧ ∀ i t, ts[i]? = some t →
  w.cell? ⟨g, o + i * 6, none⟩ = some (.int .i64 t.n) ∧ w.cell? ⟨g, o + i * 6 + 1, none⟩ = some (.string t.b) ∧ w.cell? ⟨g, o + i * 6 + 2, none⟩ = some (.string t.s) ∧ w.cell? ⟨g, o + i * 6 + 3, none⟩ = some (.string t.i) ∧ w.cell? ⟨g, o + i * 6 + 4, none⟩ = some (.int .i64 t.q) ∧ w.cell? ⟨g, o + i * 6 + 5, none⟩ = some (.int .i64 t.p)
theorem TrsR.below {w w' : World} {A : Option Addr} {ts : List Tr} (h : TrsR w A ts) (hb : Below w.heap.size w w') : TrsR w' A ts :=
  h.imp id fun ⟨g, o, e, hg, hc⟩ => ⟨g, o, e, Nat.lt_of_lt_of_le hg hb.size, fun i t hi =>
    let ⟨h0, h1, h2, h3, h4, h5⟩ := hc i t hi
    ⟨(hb.cell (p := ⟨g, o + i * 6, none⟩) hg).trans h0, (hb.cell (p := ⟨g, o + i * 6 + 1, none⟩) hg).trans h1, (hb.cell (p := ⟨g, o + i * 6 + 2, none⟩) hg).trans h2, (hb.cell (p := ⟨g, o + i * 6 + 3, none⟩) hg).trans h3, (hb.cell (p := ⟨g, o + i * 6 + 4, none⟩) hg).trans h4, (hb.cell (p := ⟨g, o + i * 6 + 5, none⟩) hg).trans h5⟩⟩
/-- What is paid for all. -/
def tot : List Tr → Int
  | [] => 0
  | t :: r => t.q * t.p + tot r
theorem tot_snoc : ∀ (l : List Tr) (t : Tr), tot (l ++ [t]) = tot l + t.q * t.p
  | [], t => by simp [tot]
  | a :: l, t => by rw [List.cons_append, tot, tot, tot_snoc l t]; omega
theorem tot_step {ts : List Tr} {i : Nat} {t : Tr} (h : ts[i]? = some t) : tot (ts.take (i + 1)) = tot (ts.take i) + t.q * t.p := by
  have hl := (List.getElem?_eq_some_iff.1 h).1
  rw [List.take_succ_eq_append_getElem hl, (List.getElem?_eq_some_iff.1 h).2, tot_snoc]
def wcs (ps : List (Int × Int)) : List Value := ps.flatMap fun p => [.int .i64 p.1, .int .u64 p.2]
theorem wcs_append (a b : List (Int × Int)) : wcs (a ++ b) = wcs a ++ wcs b := by simp [wcs]
theorem wcs_len : ∀ ps : List (Int × Int), (wcs ps).length = ps.length * 2
  | [] => rfl
  | m :: ms => by
    have := wcs_len ms
    show ([_, _] ++ wcs ms).length = _
    simp; omega
theorem wcs_get : ∀ (ps : List (Int × Int)) (i : Nat) (p : Int × Int), ps[i]? = some p → (wcs ps)[i * 2]? = some (.int .i64 p.1) ∧ (wcs ps)[i * 2 + 1]? = some (.int .u64 p.2)
  | [], _, _, h => by simp at h
  | a :: ms, 0, m, h => by simp at h; subst h; exact ⟨rfl, rfl⟩
  | a :: ms, i + 1, m, h => by
    have := wcs_get ms i m (by simpa using h)
    show ([_, _] ++ wcs ms)[_]? = _ ∧ ([_, _] ++ wcs ms)[_]? = _
    rw [show (i + 1) * 2 = i * 2 + 1 + 1 by omega]
    simpa using this
theorem wok_zero : WOk 0 0 := by unfold WOk; omega
theorem pairs_own {w : World} {base : Nat} {v : Value} {ps : List (Int × Int)} (h : w.ownsRow base 35 2 v ps.length (wcs ps)) (hk : ∀ p ∈ ps, WOk p.1 p.2) : ∃ A cap, v = .slice A ps.length cap ∧ Pairs w A ps.length ps := by
  have hd : ∀ k, WOk (ps.getD k (0, 0)).1 (ps.getD k (0, 0)).2 := fun k => by
    rw [List.getD_eq_getElem?_getD]
    cases e : ps[k]? with
    | none => exact wok_zero
    | some p => exact hk p (List.mem_of_getElem? e)
  rcases h.2 with ⟨rfl, h0⟩ | ⟨g, cap, cur, rfl, _, hh, _, _, hs, ht⟩
  · obtain rfl : ps = [] := List.length_eq_zero_iff.1 h0
    exact ⟨none, 0, rfl, rfl, hd, fun h => absurd h (by decide)⟩
  · refine ⟨_, cap, rfl, rfl, hd, fun _ => ⟨g, 0, rfl, (Array.getElem?_eq_some_iff.1 hh).1, fun i hi => ?_⟩⟩
    have e : ps[i]? = some (ps.getD i (0, 0)) := by rw [List.getD_eq_getElem?_getD, List.getElem?_eq_getElem hi]; rfl
    have hc := wcs_get ps i _ e
    rw [← ht, List.getElem?_take, if_pos (by omega), List.getElem?_take, if_pos (by omega)] at hc
    rw [Nat.zero_add, cell_of_row _ g (i * 2) _ _ _ hh, cell_of_row _ g (i * 2 + 1) _ _ _ hh]
    simpa using hc
theorem infoW : (Tryd.prog.info? 35).map (fun i => (i.zero, i.size, i.bytes)) = some (some (.agg #[.int .i64 0, .int .u64 0]), 2, 16) := by kernel_rfl
theorem made_wides (n : Nat) (hn : n ≤ 1000) : ∃ M : Array Value, M.size = n * 2 ∧ ∀ W : World, (Instr.makeSlice 51 (.int .i64 0) (.int .i64 (n : Int))).run Tryd.prog W = .ok (.slice (some ⟨W.heap.size, 0, none⟩) 0 n) (W.alloc (.cells M 35)) := by
  obtain ⟨i0, hi0, hz0, hz1, hz2⟩ := info_parts infoW
  refine ⟨madeCells #[.int .i64 0, .int .u64 0] (n * 2), size_madeCells _ _, fun W => ?_⟩
  have h := run_make (P := Tryd.prog) W 51 35 i0 _ Tryd.underlying51 hi0 hz0 .i64 .i64 0 n (Int.le_refl _) (by omega) (by rw [hz2]; omega) (by omega)
  rw [hz1] at h
  exact h
theorem own_below {w w' : World} {base n : Nat} {e : TypeId} {size : Nat} {v : Value} {xs : List Value} (h : w.ownsRow base e size v n xs) (hb : Below w.heap.size w w') : w'.ownsRow base e size v n xs :=
  h.kept (row := none) ⟨hb.os, hb.tape, hb.output, hb.size, fun i hi _ => hb.block i hi⟩ (by
    rcases hv : v.ownBlock with _ | g
    · exact .inl rfl
    · exact .inr (by simp))

set_option maxRecDepth 100000 in
set_option maxHeartbeats 4000000 in
theorem total_any (w : World) (A : Option Addr) (c : Nat) (ts : List Tr) (h : TrsR w A ts) (hn : ts.length ≤ 1000) (hq : ∀ t ∈ ts, I64 t.q ∧ I64 t.p) :
    Calls Tryd.prog 8 #[.slice A ts.length c] w fun e w' => ∃ h l er, e = .returned (.tuple #[.agg #[.int .i64 h, .int .u64 l], .int .i64 er]) ∧ Hid (WSpec (tot ts) h l er) ∧ Below w.heap.size w w' := by
  obtain ⟨i0, hi, hz0, hz1, hz2⟩ := info_parts infoW
  obtain ⟨M, hM, hmk⟩ := made_wides ts.length hn
  have HTR := Lib.hid h
  have HQ := Lib.hid hq
  obtain ⟨z, hz⟩ : ∃ z, z = tot ts := ⟨_, rfl⟩
  have HZ := Lib.hid hz
  rw [← hz]
  have hb0 : Below w.heap.size w (w.alloc (.cells #[.int .i64 0, .int .u64 0] 35)) := (Below.refl _ _).alloc (Nat.le_refl _) _
  have hbx := block_new w (.cells #[.int .i64 0, .int .u64 0] 35)
  obtain ⟨W0, hW0⟩ : ∃ W0, W0 = (w.alloc (.cells #[.int .i64 0, .int .u64 0] 35)).alloc (.cells M 35) := ⟨_, rfl⟩
  have HB0 : Hid (Below w.heap.size w W0) := by rw [hW0]; exact hb0.alloc hb0.size _
  have HBX : Hid (W0.heap[w.heap.size]? = some (.cells #[.int .i64 0, .int .u64 0] 35 (0, 0))) := by rw [hW0]; exact block_old hbx _
  have HOW : Hid (W0.ownsRow (w.heap.size + 1) 35 2 (.slice (some ⟨w.heap.size + 1, 0, none⟩) 0 ts.length) 0 []) := by
    rw [hW0]
    have := World.ownsRow_made (w.alloc (.cells #[.int .i64 0, .int .u64 0] 35)) M ts.length (base := w.heap.size + 1) (e := 35) (size := 2) (by simp) (by unfold maxLen; omega) hM
    rw [World.size_alloc] at this
    exact this
  clear h hq hz hb0 hbx hM
  go_enter Tryd.func8, Tryd.ntmps8
  go_wp2
  rw [← hW0]
  have hs0 : w.heap.size + 1 < W0.heap.size := by rw [hW0]; simp
  clear hW0
  go_loopg [12, 4] ts.length (fun (gh : Nat) si sv wx => ∃ (i : Nat) (ps : List (Int × Int)), gh = ts.length - i ∧ i ≤ ts.length ∧ si = .int .i64 (i : Int) ∧ Hid (ps.length = i ∧ (∀ p ∈ ps, WOk p.1 p.2) ∧ wtot ps = tot (ts.take i) ∧ wx.ownsRow (w.heap.size + 1) 35 2 sv i (wcs ps) ∧ wx.heap[w.heap.size]? = some (.cells #[.int .i64 0, .int .u64 0] 35 (0, 0)) ∧ Below w.heap.size w wx ∧ w.heap.size + 1 < wx.heap.size))
  case atStart => exact ⟨0, [], rfl, Nat.zero_le _, rfl, rfl, (fun p hp => by cases hp), rfl, HOW.out, HBX.out, HB0.out, hs0⟩
  case round =>
    clear hs0
    obtain ⟨i, ps, rfl, him, rfl, hinv⟩ := hrel
    obtain ⟨hpl, hpk, hpt, how, hbx, hbel, hsz⟩ := hinv.out
    by_cases hlt : i < ts.length
    · obtain ⟨t, ht⟩ : ∃ t, ts[i]? = some t := ⟨_, List.getElem?_eq_getElem hlt⟩
      rcases HTR.out with h0 | ⟨g, o, rfl, hg, hcell⟩
      · rw [h0] at ht; simp at ht
      obtain ⟨d0, d1, d2, d3, d4, d5⟩ := hcell i t ht
      have c0 := (hbel.cell (p := ⟨g, o + i * 6, none⟩) hg).trans d0
      have c1 := (hbel.cell (p := ⟨g, o + i * 6 + 1, none⟩) hg).trans d1
      have c2 := (hbel.cell (p := ⟨g, o + i * 6 + 2, none⟩) hg).trans d2
      have c3 := (hbel.cell (p := ⟨g, o + i * 6 + 3, none⟩) hg).trans d3
      have c4 := (hbel.cell (p := ⟨g, o + i * 6 + 4, none⟩) hg).trans d4
      have c5 := (hbel.cell (p := ⟨g, o + i * 6 + 5, none⟩) hg).trans d5
      have t1 : (i : Int) < (ts.length : Int) := by omega
      have t2 : (0 : Int) ≤ (i : Int) := by omega
      have hqp := HQ.out t (List.mem_of_getElem? ht)
      have HV := Lib.hid (value_any (wr.alloc (.cells #[.int .i64 t.n, .string t.b, .string t.s, .string t.i, .int .i64 t.q, .int .i64 t.p] 28)) t hqp.1 hqp.2 (Lib.hid rfl))
      have HST := Lib.hid (tot_step ht)
      have hA1 : Below wr.heap.size wr (wr.alloc (.cells #[.int .i64 t.n, .string t.b, .string t.s, .string t.i, .int .i64 t.q, .int .i64 t.p] 28)) := (Below.refl _ _).alloc (Nat.le_refl _) _
      have HO1 := Lib.hid (own_below how hA1)
      have HX1 := Lib.hid (block_kept hbx hA1)
      have HB1 := Lib.hid (hbel.trans (hA1.mono hbel.size))
      have HS1 : Hid (w.heap.size + 1 < (wr.alloc (.cells #[.int .i64 t.n, .string t.b, .string t.s, .string t.i, .int .i64 t.q, .int .i64 t.p] 28)).heap.size) := by show _ < _; have := hA1.size; omega
      have HPL := Lib.hid hpl
      have HPK := Lib.hid hpk
      have HPT := Lib.hid hpt
      clear hcell d0 d1 d2 d3 d4 d5 hqp ht hpl hpk hpt how hbx hbel hinv hA1
      go_wp2_with (first
        | (go_at_call 19; refine HV.out.mono ?_; rintro e w2 ⟨h, l, rfl, hwk, hb⟩; have HWK := Lib.hid hwk; have HO2 := Lib.hid (own_below HO1.out hb); have HX2 := Lib.hid (block_kept HX1.out hb); have HB2 := Lib.hid (HB1.out.trans (hb.mono HB1.out.size)); have hs2 : w.heap.size + 1 < w2.heap.size := Nat.lt_of_lt_of_le HS1.out hb.size; clear hb hwk)
        | (at_builtin; refine wpList_append_own _ rfl _ _ 51 rfl (w.heap.size + 1) 35 i0 _ 2 16 Tryd.underlying51 hi hz0 hz1 hz2 rfl (by decide) _ _ _ rfl (HO2.out.alloc _) ⟨w2.heap.size, 0, none⟩ 1 1 [.int .i64 h, .int .u64 l] rfl rfl (World.news_of_block (cs := #[.int .i64 h, .int .u64 l]) (t := 35) (fr := (0, 0)) (heap_alloc_new w2 _)) (by simp [Value.oneCell']) (by unfold maxLen; omega) (by omega) (by simp; omega) ?_; intro v' w3 hown' hgrow hnil))
      have HO3 := Lib.hid hown'
      have hxb : w3.heap[w.heap.size]? = some (.cells #[.int .i64 0, .int .u64 0] 35 (0, 0)) := by
        rw [hgrow.block _ (by simp; omega) (fun e => by have := (HO2.out.lt _ e.symm).1; omega)]
        exact block_old HX2.out _
      have HX3 := Lib.hid hxb
      have HB3 : Hid (Below w.heap.size w w3) := (HB2.out.alloc HB2.out.size _).grown hgrow (by have := HB2.out.size; simp; omega) (fun j hj => by have := (HO2.out.lt j hj).1; omega)
      have hs3 : w.heap.size + 1 < w3.heap.size := by have := hgrow.size; simp at this; omega
      clear hown' hgrow hnil hxb
      go_wp2
      go_roundg (ts.length - (i + 1))
      case measure => omega
      case rel =>
        refine ⟨i + 1, ps ++ [(h, l)], rfl, by omega, by go_num, by rw [List.length_append, HPL.out]; rfl, fun p hp => ?_, ?_, ?_, HX3.out, HB3.out, hs3⟩
        · rcases List.mem_append.1 hp with hp | hp
          · exact HPK.out p hp
          · rw [List.mem_singleton.1 hp]; exact HWK.out.1
        · rw [wtot_snoc, HPT.out, HST.out]
          have := HWK.out.2.out
          simp only
          rw [this]
        · rw [wcs_append]; exact HO3.out
    · obtain rfl : i = ts.length := by omega
      rw [List.take_of_length_le (Nat.le_refl _)] at hpt
      obtain ⟨A2, cap2, rfl, hpr⟩ := pairs_own (by rw [hpl]; exact how) hpk
      have HP := fplus_any wr A2 ps.length cap2 ps hpr (by omega)
      rw [hpt, ← HZ.out] at HP
      have HP2 := Lib.hid HP
      have HX := Lib.hid hbx
      have HB := Lib.hid hbel
      have hlt' := (Array.getElem?_eq_some_iff.1 hbx).1
      clear HP hpr hpl hpk hpt how hbx hbel hinv hlt
      go_wp2_with (go_at_call 20; refine HP2.out.mono ?_; rintro e w2 ⟨h, l, er, rfl, hsp, hb⟩; have HSP := Lib.hid hsp; have HX2 := Lib.hid (block_kept HX.out hb); have HB2 := Lib.hid (HB.out.trans (hb.mono HB.out.size)); obtain ⟨y0, y1, g0, g1⟩ := blk2 HX2.out; clear hb hsp)
      have r3 : ((w2.setCell ⟨w.heap.size, 0, none⟩ (.int .i64 h)).setCell ⟨w.heap.size, 1, none⟩ (.int .u64 l)).heap[w.heap.size]? = some (.cells #[.int .i64 h, .int .u64 l] 35 (0, 0)) :=
        heap_setCell_same _ w.heap.size 1 _ _ _ (heap_setCell_same w2 w.heap.size 0 _ _ _ HX2.out)
      obtain ⟨s0, s1, _, _⟩ := blk2 r3
      have HB3 : Below w.heap.size w ((w2.setCell ⟨w.heap.size, 0, none⟩ (.int .i64 h)).setCell ⟨w.heap.size, 1, none⟩ (.int .u64 l)) := (HB2.out.setCell (p := ⟨w.heap.size, 0, none⟩) (Nat.le_refl _) _).setCell (p := ⟨w.heap.size, 1, none⟩) (Nat.le_refl _) _
      refine bodyPost_ret (v := .tuple #[.agg #[.int .i64 h, .int .u64 l], .int .i64 er]) (by simp [results, Tryd.results8, go_sem, s0, s1]) rfl ⟨h, l, er, rfl, HSP.out, HB3⟩
end Go.Proofs.YtkoihpfgleboiaaDoor.Td
