/-
  The contract of the function that From gives: the rows whose keys aren't below k, in order. Conditions: at most a thousand rows.
-/
import Derived.Test.YtflhpijcfiamgaaTEachIi
namespace Go.Proofs.Ytflhpijcfiamgaa.Tb.Ii
open Go.RowKit Go.Shelf
attribute [local go_sem] Oper.semAt_some

theorem slice_some (g o n cap a : Nat) (h : a ≤ n) (hc : n ≤ cap) (W : World) : (Instr.slice 24 (.slice (some ⟨g, o, none⟩) n cap) (some (.int .i64 (a : Int))) none none).run Try.prog W = .ok (.slice (some ⟨g, if cap = a then o else o + a * 2, none⟩) (n - a) (cap - a)) W := by
  have h2 : (a : Int) ≤ (n : Int) := by omega
  have h3 : (n : Int) ≤ (cap : Int) := by omega
  by_cases hcc : cap = a
  · subst hcc
    simp [Instr.slice, Instr.sliceBounds, Instr.sliceBound, asIntOf, run_underlying Try.underlying24, h, hc]
  · simp [Instr.slice, Instr.sliceBounds, Instr.sliceBound, asIntOf, run_underlying Try.underlying24, h, hcc]
    unfold Addr.add
    split <;> simp_all
theorem slice_none (W : World) : (Instr.slice 24 (.slice none 0 0) (some (.int .i64 0)) none none).run Try.prog W = .ok (.slice none 0 0) W := by
  simp [Instr.slice, Instr.sliceBounds, Instr.sliceBound, asIntOf, run_underlying Try.underlying24]
/-- The rows from a place on. -/
theorem rows_from (w : World) (v : Value) (l : List R) (a : Nat) (h : RowsR w v l) (ha : a ≤ l.length) : ∃ v', RowsR w v' (l.drop a) ∧ ∀ W, (Instr.slice 24 v (some (.int .i64 (a : Int))) none none).run Try.prog W = .ok v' W := by
  obtain ⟨A, cap, rfl, hc, hA, h3⟩ := h
  rcases h3 with ⟨rfl, rfl⟩ | ⟨g, o, rfl, hg, hcell⟩
  · simp at ha
    subst ha
    obtain rfl := hA rfl
    exact ⟨_, RowsR.nil w, fun W => slice_none W⟩
  · refine ⟨_, ⟨some ⟨g, if cap = a then o else o + a * 2, none⟩, cap - a, by rw [List.length_drop], by rw [List.length_drop]; omega, fun e => (by cases e), .inr ⟨g, _, rfl, hg, fun i r hi => ?_⟩⟩, fun W => slice_some g o l.length cap a ha hc W⟩
    rw [List.getElem?_drop] at hi
    have hlt := (List.getElem?_eq_some_iff.1 hi).1
    rw [if_neg (by omega)]
    have := hcell _ _ hi
    rw [show o + a * 2 + i * 2 = o + (a + i) * 2 by omega]
    exact this

set_option maxRecDepth 100000 in
set_option maxHeartbeats 2000000 in
theorem from1_in (n m l B Bs : Nat) (hn1 : 3 ≤ n) (wT : World) (p : Option Addr) (k : K) (rs : List R) (hr : TabR wT p rs) (ha : asc rs) (hn : rs.length ≤ 1000) (J Jx : List R → World → Prop) (hJ : AbidesFrom B J)
    (hY : ∀ pre x W, J pre W → pre.length < (fromL rs k).length → YieldAt Fence.wide m Try.prog l #[Value.int .i64 x.1, Value.int .i64 x.2] W fun e W' =>
      (e = .returned (.bool true) ∧ J (pre ++ [x]) W' ∧ Below wT.heap.size W W') ∨ (e = .returned (.bool false) ∧ Jx (pre ++ [x]) W'))
    (W : World) (hW : Below wT.heap.size wT W) (hBs : W.heap[Bs]? = some (.cells #[.pointer p] 23 (0, 0))) (hBk : W.heap[Bs + 1]? = some (.cells #[Value.int .i64 k] 3 (0, 0))) (h0 : J [] W) :
    CallsIn Fence.wide n Try.prog 49 #[.func (.yield l) #[] #[], .pointer (some ⟨Bs, 0, none⟩), .pointer (some ⟨Bs + 1, 0, none⟩)] W fun e W' => (∃ v, e = .returned v) ∧ ((∃ ys, ys = fromL rs k ∧ J ys W') ∨ (∃ pre, pre <+: fromL rs k ∧ Jx pre W')) := by
  have hb1 := (block_cell hBs).1
  have hb2 := (block_cell hBk).1
  have hf := Lib.hid (callsIn_wide (n := n - 1).2 (find_any W p rs k (hr.below hW) ha hn))
  obtain ⟨v, hv, hal⟩ := all_any wT p rs hr
  obtain ⟨v', hv', hsl⟩ := rows_from wT v rs (pl rs k) hv (pl_le rs k)
  have hlen : (rs.drop (pl rs k)).length ≤ 1000 := by rw [List.length_drop]; omega
  have HY := Lib.hid hY
  have HAL := Lib.hid hal
  have HV := Lib.hid hv'
  have HBs := Lib.hid hBs
  have HBk := Lib.hid hBk
  have H0 := Lib.hid h0
  have hn2 : 1 ≤ n := by omega
  clear hY hal hv' hr ha hBs hBk h0
  refine callsIn_of_wp Try.func49 rfl trivial ?_ rfl
  simp only [Try.ntmps49, List.size_toArray, List.length_cons, List.length_nil, Nat.reduceAdd, Nat.reduceSub, Array.replicate_succ, Array.replicate_zero, List.push_toArray, List.append_toArray, List.nil_append, List.cons_append]
  gi_wp2_with (first
    | (refine ⟨trivial, ?_⟩; gi_at_call 37; refine hf.out.mono ?_; rintro e w1 ⟨rfl, hb⟩; have c1 := (block_cell (block_kept HBs.out hb)).1; have HB : Hid _ := hb; clear hb)
    | (refine ⟨trivial, ?_⟩; gi_at_call 42; refine (callsIn_wide.2 (HAL.out _ (hW.trans (HB.out.mono hW.size)))).mono ?_; rintro e w2 ⟨rfl, rfl⟩)
    | (refine ⟨trivial, ?_⟩; gi_at_call 48; refine (give_in (n - 1) m l B (by omega) wT v' _ HV.out hlen J Jx hJ HY.out w1 (hW.trans (HB.out.mono hW.size)) (hJ [] W w1 none H0.out ⟨HB.out.os, HB.out.tape, HB.out.output, HB.out.size, fun k hk _ => HB.out.block k hk⟩ (fun r e => by cases e))).mono ?_; rintro e w' ⟨⟨v'', rfl⟩, hpost⟩))
  have HP := Lib.hid hpost
  clear hpost
  go_end0
  exact ⟨⟨_, rfl⟩, HP.out⟩
theorem from_stops (n : Nat) (hn1 : 3 ≤ n) (Bs : Nat) (wT : World) (p : Option Addr) (k : K) (rs : List R) (hr : TabR wT p rs) (ha : asc rs) (hn : rs.length ≤ 1000) (w : World) (hw : Below wT.heap.size wT w) (hBs : w.heap[Bs]? = some (.cells #[.pointer p] 23 (0, 0))) (hBk : w.heap[Bs + 1]? = some (.cells #[Value.int .i64 k] 3 (0, 0))) :
    SeqStopsK Fence.wide n Try.prog 49 #[.pointer (some ⟨Bs, 0, none⟩), .pointer (some ⟨Bs + 1, 0, none⟩)] (fun x : R => #[Value.int .i64 x.1, Value.int .i64 x.2]) (Below wT.heap.size) (fun ys => ys = fromL rs k) (fun pre => pre <+: fromL rs k) (fromL rs k).length w :=
  fun l J Jx W hW hJ _ hY h0 => from1_in n (n - 1) l W.heap.size Bs hn1 wT p k rs hr ha hn J Jx hJ hY W (hw.trans (hW.mono hw.size)) (block_kept hBs hW) (block_kept hBk hW) h0
end Go.Proofs.Ytflhpijcfiamgaa.Tb.Ii
