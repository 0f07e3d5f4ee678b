/-
  The contract of the function that From gives: the rows whose keys aren't below k, in order. Conditions: at most a thousand rows.
-/
import Derived.Test.YtklngdmpledgeaaJM24
namespace Go.Proofs.Ytklngdmpledgeaa.Tb.Ib
open Go.RowKit Go.Shelf
attribute [local go_sem] Oper.semAt_some

theorem slice_some (g o n cap a : Nat) (h : a ≤ n) (hc : n ≤ cap) (W : World) : (Instr.slice 126 (.slice (some ⟨g, o, none⟩) n cap) (some (.int .i64 (a : Int))) none none).run Try.prog W = .ok (.slice (some ⟨g, if cap = a then o else o + a * 2, none⟩) (n - a) (cap - a)) W := by
  have h2 : (a : Int) ≤ (n : Int) := by omega
  have h3 : (n : Int) ≤ (cap : Int) := by omega
  by_cases hcc : cap = a
  · subst hcc
    simp [Instr.slice, Instr.sliceBounds, Instr.sliceBound, asIntOf, run_underlying Try.underlying126, h, hc]
  · simp [Instr.slice, Instr.sliceBounds, Instr.sliceBound, asIntOf, run_underlying Try.underlying126, h, hcc]
    unfold Addr.add
    split <;> simp_all
theorem slice_none (W : World) : (Instr.slice 126 (.slice none 0 0) (some (.int .i64 0)) none none).run Try.prog W = .ok (.slice none 0 0) W := by
  simp [Instr.slice, Instr.sliceBounds, Instr.sliceBound, asIntOf, run_underlying Try.underlying126]
/-- The rows from a place on. -/
theorem rows_from (w : World) (v : Value) (l : List R) (a : Nat) (h : RowsR w v l) (ha : a ≤ l.length) : ∃ v', RowsR w v' (l.drop a) ∧ ∀ W, (Instr.slice 126 v (some (.int .i64 (a : Int))) none none).run Try.prog W = .ok v' W := by
  obtain ⟨A, cap, rfl, hc, hA, h3⟩ := h
  rcases h3 with ⟨rfl, rfl⟩ | ⟨g, o, rfl, hg, hcell⟩
  · simp at ha
    subst ha
    obtain rfl := hA rfl
    exact ⟨_, RowsR.nil w, fun W => slice_none W⟩
  · refine ⟨_, ⟨some ⟨g, if cap = a then o else o + a * 2, none⟩, cap - a, by rw [List.length_drop], by rw [List.length_drop]; omega, fun e => (by cases e), .inr ⟨g, _, rfl, hg, fun i r hi => ?_⟩⟩, fun W => slice_some g o l.length cap a ha hc W⟩
    rw [List.getElem?_drop] at hi
    have hlt := (List.getElem?_eq_some_iff.1 hi).1
    rw [if_neg (by omega)]
    have := hcell _ _ hi
    rw [show o + a * 2 + i * 2 = o + (a + i) * 2 by omega]
    exact this

set_option maxRecDepth 100000 in
set_option maxHeartbeats 2000000 in
theorem from1_in (n m l B Bs : Nat) (hn1 : 3 ≤ n) (wT : World) (p : Option Addr) (k : K) (rs : List R) (hr : TabR wT p rs) (ha : asc rs) (hn : rs.length ≤ 1000) (J Jx : List R → World → Prop) (hJ : AbidesFrom B J)
    (hY : ∀ pre x W, J pre W → pre.length < (fromL rs k).length → YieldAt Fence.wide m Try.prog l #[Value.int .i64 x.1, (Value.slice x.2.A x.2.n x.2.c)] W fun e W' =>
      (e = .returned (.bool true) ∧ J (pre ++ [x]) W' ∧ Below wT.heap.size W W') ∨ (e = .returned (.bool false) ∧ Jx (pre ++ [x]) W'))
    (W : World) (hW : Below wT.heap.size wT W) (hBs : W.heap[Bs]? = some (.cells #[.pointer p] 114 (0, 0))) (hBk : W.heap[Bs + 1]? = some (.cells #[Value.int .i64 k] 3 (0, 0))) (h0 : J [] W) :
    CallsIn Fence.wide n Try.prog 122 #[.func (.yield l) #[] #[], .pointer (some ⟨Bs, 0, none⟩), .pointer (some ⟨Bs + 1, 0, none⟩)] W fun e W' => (∃ v, e = .returned v) ∧ ((∃ ys, ys = fromL rs k ∧ J ys W') ∨ (∃ pre, pre <+: fromL rs k ∧ Jx pre W')) := by
  have hb1 := (block_cell hBs).1
  have hb2 := (block_cell hBk).1
  have hf := Lib.hid (callsIn_wide (n := n - 1).2 (find_any W p rs k (hr.below hW) ha hn))
  obtain ⟨v, hv, hal⟩ := all_any wT p rs hr
  obtain ⟨v', hv', hsl⟩ := rows_from wT v rs (pl rs k) hv (pl_le rs k)
  have hlen : (rs.drop (pl rs k)).length ≤ 1000 := by rw [List.length_drop]; omega
  have HY := Lib.hid hY
  have HAL := Lib.hid hal
  have HV := Lib.hid hv'
  have HBs := Lib.hid hBs
  have HBk := Lib.hid hBk
  have H0 := Lib.hid h0
  have hn2 : 1 ≤ n := by omega
  clear hY hal hv' hr ha hBs hBk h0
  refine callsIn_of_wp Try.func122 rfl trivial ?_ rfl
  simp only [Try.ntmps122, List.size_toArray, List.length_cons, List.length_nil, Nat.reduceAdd, Nat.reduceSub, Array.replicate_succ, Array.replicate_zero, List.push_toArray, List.append_toArray, List.nil_append, List.cons_append]
  gi_wp2_with (first
    | (refine ⟨trivial, ?_⟩; gi_at_call 123; refine hf.out.mono ?_; rintro e w1 ⟨rfl, hb⟩; have c1 := (block_cell (block_kept HBs.out hb)).1; have HB : Hid _ := hb; clear hb)
    | (refine ⟨trivial, ?_⟩; gi_at_call 125; refine (callsIn_wide.2 (HAL.out _ (hW.trans (HB.out.mono hW.size)))).mono ?_; rintro e w2 ⟨rfl, rfl⟩)
    | (refine ⟨trivial, ?_⟩; gi_at_call 124; refine (give_in (n - 1) m l B (by omega) wT v' _ HV.out hlen J Jx hJ HY.out w1 (hW.trans (HB.out.mono hW.size)) (hJ [] W w1 none H0.out ⟨HB.out.os, HB.out.tape, HB.out.output, HB.out.size, fun k hk _ => HB.out.block k hk⟩ (fun r e => by cases e))).mono ?_; rintro e w' ⟨⟨v'', rfl⟩, hpost⟩))
  have HP := Lib.hid hpost
  clear hpost
  go_end0
  exact ⟨⟨_, rfl⟩, HP.out⟩
theorem from_stops (n : Nat) (hn1 : 3 ≤ n) (Bs : Nat) (wT : World) (p : Option Addr) (k : K) (rs : List R) (hr : TabR wT p rs) (ha : asc rs) (hn : rs.length ≤ 1000) (w : World) (hw : Below wT.heap.size wT w) (hBs : w.heap[Bs]? = some (.cells #[.pointer p] 114 (0, 0))) (hBk : w.heap[Bs + 1]? = some (.cells #[Value.int .i64 k] 3 (0, 0))) :
    SeqStopsK Fence.wide n Try.prog 122 #[.pointer (some ⟨Bs, 0, none⟩), .pointer (some ⟨Bs + 1, 0, none⟩)] (fun x : R => #[Value.int .i64 x.1, (Value.slice x.2.A x.2.n x.2.c)]) (Below wT.heap.size) (fun ys => ys = fromL rs k) (fun pre => pre <+: fromL rs k) (fromL rs k).length w :=
  fun l J Jx W hW hJ _ hY h0 => from1_in n (n - 1) l W.heap.size Bs hn1 wT p k rs hr ha hn J Jx hJ hY W (hw.trans (hW.mono hw.size)) (block_kept hBs hW) (block_kept hBk hW) h0
end Go.Proofs.Ytklngdmpledgeaa.Tb.Ib

namespace Go.Proofs.Ytklngdmpledgeaa.Jo
open Go.RowKit Go.Shelf Fr Sr
attribute [local go_sem] Oper.semAt_some
variable {β : Type}

abbrev tkey (x : Xr) : Int := x.1
abbrev tR (_ : Nat → Prop) (x : Xr) (v : Value) (_ : World) : Prop := v = bval x.2
theorem ks_cell {w w' : World} (h : KS (fun _ => True) w w') {g i : Nat} (hg : g < w.heap.size) : w'.cell? ⟨g, i, none⟩ = w.cell? ⟨g, i, none⟩ := by
  simp only [World.cell?]; rw [h.2 g trivial hg]
abbrev Lo (N : Nat) (K : Nat → Prop) : Prop := ∀ k, k < N → K k
set_option maxRecDepth 100000 in
set_option maxHeartbeats 2000000 in
theorem give_g (n m l : Nat) (hn1 : 1 ≤ n) (wT : World) (v : Value) (rs : List Xr) (hr : Tb.Ib.RowsR wT v rs) (hn : rs.length ≤ 1000) (seen : β → List Xr) (K : β → Nat → Prop) (J Jx : β → World → Prop) (B : Nat) (hJ : OwnFrom B J)
    (hY : ∀ s x W1, J s W1 → (∃ r, rs = seen s ++ x :: r) → YieldAt Fence.wide m Try.prog l #[.int .i64 x.1, bval x.2] W1 fun e W' =>
      (e = .returned (.bool true) ∧ KS (K s) W1 W' ∧ ∃ s', seen s' = seen s ++ [x] ∧ J s' W' ∧ Goes (K s) (K s') W1) ∨ (e = .returned (.bool false) ∧ KS (fun k => K s k ∧ B ≤ k) W1 W' ∧ ∃ s', seen s' = seen s ++ [x] ∧ Jx s' W'))
    (W : World) (hW : KS (fun _ => True) wT W) (s0 : β) (hs0 : seen s0 = []) (h0 : J s0 W) (hC : Lo wT.heap.size (K s0)) :
    CallsIn Fence.wide n Try.prog 124 #[v, .func (.yield l) #[] #[]] W fun e W' => (∃ v, e = .returned v) ∧ ((∃ s, seen s = rs ∧ J s W') ∨ (∃ s, (∃ r, rs = seen s ++ r) ∧ Jx s W')) := by
  obtain ⟨A, cap, rfl, _, _, h3⟩ := hr
  have H3 := Lib.hid h3
  have HY := Lib.hid hY
  have HJ := Lib.hid hJ
  have H0 : Hid (seen s0 = rs.take 0 ∧ J s0 W ∧ KS (fun _ => True) wT W ∧ Lo wT.heap.size (K s0)) := ⟨by rw [hs0]; rfl, h0, hW, hC⟩
  clear h3 hY hJ h0 hW hC hs0
  refine callsIn_of_wp Try.func124 rfl trivial ?_ rfl
  simp only [Try.ntmps124, List.size_toArray, List.length_cons, List.length_nil, Nat.reduceAdd, Nat.reduceSub, Array.replicate_succ, Array.replicate_zero, List.push_toArray, List.append_toArray, List.nil_append, List.cons_append]
  gi_wp2
  gi_loopw [8] (fun i wr => ∃ (k : Nat) (s : β), k ≤ rs.length ∧ i = .int .i64 (k : Int) ∧ Hid (seen s = rs.take k ∧ J s wr ∧ KS (fun _ => True) wT wr ∧ Lo wT.heap.size (K s)))
    (fun i _ => rs.length - (intOf i).toNat)
  case atStart => exact ⟨0, s0, Nat.zero_le _, rfl, H0.out⟩
  case round =>
    obtain ⟨k, s, hk, rfl, hinv⟩ := hrel
    by_cases hlt : k < rs.length
    · obtain ⟨r, hr⟩ : ∃ r, rs[k]? = some r := ⟨_, List.getElem?_eq_getElem hlt⟩
      rcases H3.out with ⟨rfl, rfl⟩ | ⟨g, o, rfl, hg, hcell⟩
      · simp at hr
      have hc := hcell k r hr
      have c1 : wr.cell? ⟨g, o + k * 2, none⟩ = some (Value.int .i64 r.1) := (ks_cell hinv.out.2.2.1 hg).trans hc.1
      have c2 : wr.cell? ⟨g, o + k * 2 + 1, none⟩ = some (Value.slice r.2.A r.2.n r.2.c) := (ks_cell hinv.out.2.2.1 hg).trans hc.2
      have hgr : rs[k] = r := by rw [List.getElem?_eq_getElem hlt] at hr; exact Option.some.inj hr
      have hts : Hid (rs.take (k + 1) = rs.take k ++ [r]) := by
        show _ = _
        rw [List.take_succ_eq_append_getElem hlt, hgr]
      have hfit : ∃ r', rs = seen s ++ r :: r' := ⟨rs.drop (k + 1), by rw [hinv.out.1, ← hgr, ← List.drop_eq_getElem_cons hlt, List.take_append_drop]⟩
      have hal := alloc_below wr (.cells #[Value.int .i64 r.1, (Value.slice r.2.A r.2.n r.2.c)] 122)
      obtain ⟨fn, tmps, assign, body, hy, hR⟩ := yield_any (n - 1) (HY.out s r (wr.alloc (.cells #[Value.int .i64 r.1, (Value.slice r.2.A r.2.n r.2.c)] 122)) (own_below HJ.out hinv.out.2.1 hal) hfit)
      unfold bval at hy
      have HB : Hid (KS (fun _ => True) wT (wr.alloc (.cells #[Value.int .i64 r.1, (Value.slice r.2.A r.2.n r.2.c)] 122))) := hinv.out.2.2.1.trans (KS.of_below hal)
      clear hc hcell hr hgr hfit hal
      gi_wp2
      refine hR.mono ?_
      rintro e W3 (⟨rfl, hk3, s', hs', hJ3, hgo⟩ | ⟨rfl, _, s', hs', hJx3⟩)
      · have HJ3 : Hid (seen s' = rs.take (k + 1) ∧ J s' W3 ∧ KS (fun _ => True) wT W3 ∧ Lo wT.heap.size (K s')) := by
          refine ⟨by rw [hts.out, hs', hinv.out.1], hJ3, ?_, fun i hi => hgo i (hinv.out.2.2.2 i hi) (Nat.lt_of_lt_of_le hi HB.out.1)⟩
          exact ⟨Nat.le_trans HB.out.1 hk3.1, fun i _ hi => (hk3.2 i (hinv.out.2.2.2 i hi) (Nat.lt_of_lt_of_le hi HB.out.1)).trans (HB.out.2 i trivial hi)⟩
        clear hJ3 hk3 hy hR hgo hs'
        gi_wp2
        go_roundw
        case rel => exact ⟨k + 1, s', by omega, by go_num, HJ3.out⟩
        case measure => simp [intOf]; omega
      · have HJ3 := Lib.hid hJx3
        have HS := Lib.hid hs'
        clear hJx3 hy hR hs'
        gi_wp2
        refine bodyPost_ret (results_none rfl _ _ _) rfl ?_
        exact ⟨⟨_, rfl⟩, .inr ⟨s', ⟨rs.drop (k + 1), by rw [HS.out, hinv.out.1, ← hts.out, List.take_append_drop]⟩, HJ3.out⟩⟩
    · obtain rfl : k = rs.length := by omega
      gi_wp2
      go_end0
      exact ⟨⟨_, rfl⟩, .inl ⟨s, by rw [hinv.out.1, List.take_of_length_le (Nat.le_refl _)], hinv.out.2.1⟩⟩
set_option maxRecDepth 100000 in
set_option maxHeartbeats 2000000 in
theorem from1_g (n : Nat) (hn1 : 4 ≤ n) (seen : β → List Xr) (K : β → Nat → Prop) (Bs : Nat) (wT w : World) (p : Option Addr) (k : Int) (rs : List Xr) (hr : Tb.Ib.TabR wT p rs) (ha : Tb.asc rs) (hn : rs.length ≤ 1000) (hw : Below wT.heap.size wT w) (hBs : w.heap[Bs]? = some (.cells #[.pointer p] 114 (0, 0))) (hBk : w.heap[Bs + 1]? = some (.cells #[.int .i64 k] 3 (0, 0))) :
    GSeq seen K (Lo wT.heap.size) (fun _ _ => True) tkey tR Fence.wide n Try.prog 122 #[.pointer (some ⟨Bs, 0, none⟩), .pointer (some ⟨Bs + 1, 0, none⟩)] (Tb.fromL rs k) w := by
  intro l J Jx W hW hJ hJx hJK _ hY s0 hs0 h0 hC
  have hb1 := (block_cell (block_kept hBs hW)).1
  have hb2 := (block_cell (block_kept hBk hW)).1
  have hTW : Below wT.heap.size wT W := hw.trans (hW.mono hw.size)
  have hf := Lib.hid (callsIn_wide (n := n - 1).2 (Tb.Ib.find_any W p rs k (hr.below hTW) ha hn))
  obtain ⟨v, hv, hal⟩ := Tb.Ib.all_any wT p rs hr
  obtain ⟨v', hv', hsl⟩ := Tb.Ib.rows_from wT v rs (Tb.pl rs k) hv (Tb.pl_le rs k)
  have hlen : (rs.drop (Tb.pl rs k)).length ≤ 1000 := by rw [List.length_drop]; omega
  have HY := Lib.hid hY
  have HAL := Lib.hid hal
  have HV := Lib.hid hv'
  have HBs := Lib.hid (block_kept hBs hW)
  have H0 := Lib.hid (And.intro hs0 (And.intro h0 hC))
  have HJ := Lib.hid hJ
  have HTW := Lib.hid hTW
  have hn2 : 1 ≤ n := by omega
  clear hY hal hv' hr ha hBs hBk h0 hC hs0 hJ hJx hJK hTW hW hw
  refine callsIn_of_wp Try.func122 rfl trivial ?_ rfl
  simp only [Try.ntmps122, List.size_toArray, List.length_cons, List.length_nil, Nat.reduceAdd, Nat.reduceSub, Array.replicate_succ, Array.replicate_zero, List.push_toArray, List.append_toArray, List.nil_append, List.cons_append]
  gi_wp2_with (first
    | (refine ⟨trivial, ?_⟩; gi_at_call 123; refine hf.out.mono ?_; rintro e w1 ⟨rfl, hb⟩; have c1 := (block_cell (block_kept HBs.out hb)).1; have HB : Hid _ := hb; clear hb)
    | (refine ⟨trivial, ?_⟩; gi_at_call 125; refine (callsIn_wide.2 (HAL.out _ (HTW.out.trans (HB.out.mono HTW.out.size)))).mono ?_; rintro e w2 ⟨rfl, rfl⟩)
    | (refine ⟨trivial, ?_⟩; gi_at_call 124; refine (give_g (n - 1) (n - 1) l (by omega) wT v' _ HV.out hlen seen K J Jx W.heap.size HJ.out (fun s x W1 hs hf => HY.out s x _ W1 hs rfl hf) w1 (KS.of_below (HTW.out.trans (HB.out.mono HTW.out.size))) s0 H0.out.1 (own_below HJ.out H0.out.2.1 HB.out) H0.out.2.2).mono ?_; rintro e w' ⟨⟨v'', rfl⟩, hpost⟩))
  have HP := Lib.hid hpost
  clear hpost
  go_end0
  exact ⟨⟨_, rfl⟩, HP.out⟩
end Go.Proofs.Ytklngdmpledgeaa.Jo
