/-
  The contract of the law's bytes at a wide number and at a text. Conditions: the part's own ranges; a text of at most 300 bytes.
-/
import Derived.Test.YtmicmldhjmadcaaOByt
namespace Go.Proofs.Ytmicmldhjmadcaa.Oc
open Go.RowKit

theorem cell_same {w w' : World} {b : Nat} (h : w'.heap[b]? = w.heap[b]?) (o : Nat) : w'.cell? ⟨b, o, none⟩ = w.cell? ⟨b, o, none⟩ := by simp only [World.cell?]; rw [h]
theorem step_app_run {P : Program} (w : World) {ops : Array Oper} {o : Oper} {a : Act} {K : Act → World → Prop} {Q : Exit → Act → World → Prop} {E : Prop} (hgd : o.guard = none) (s x : Operand) (t tn : TypeId)
    (ho : o.op = .call { callee := .builtin .append, args := #[s, x], argTypes := #[t, tn] }) (vs vx : Value) (hs : a.eval s = vs) (hx : a.eval x = vx)
    (v' : Value) (w' : World) (hr : (Builtin.append_ #[t, tn] o.type #[vs, vx]).run P w = .ok v' w') (h : K (a.put o.dst v') w') :
    if Region.wanted o (yielded ops a.tmps) = true then Oper.wp P o a w K Q else E := by
  have hw : Region.wanted o (yielded ops a.tmps) = true := by simp [Region.wanted, hgd]
  rw [if_pos hw]
  exact Lib.wp_append_run w s x t tn ho vs vx hs hx v' w' hr h
/-- A text's bytes behind its groups. -/
theorem byt3 (w W w1 : World) (x : Value) (s : ByteArray) (q : Nat) (A1 : Option Addr) (n1 c1 : Nat) (hW : Below w.heap.size w W) (hWs : w.heap.size + 1 ≤ W.heap.size) (hq : s.size = q) (hq3 : q ≤ 300) (ho : w1.ownsRow W.heap.size 5 1 (.slice A1 n1 c1) (grp q).length (bv (grp q))) (hb : Below W.heap.size W w1)
    (hc : W.cell? ⟨w.heap.size, 3, none⟩ = some x) :
    ∃ A n c w2, (Builtin.append_ #[27, 9] 27 #[.slice A1 n1 c1, .string s]).run Try.prog w1 = .ok (.slice A n c) w2 ∧ w1.cell? ⟨w.heap.size, 3, none⟩ = some x ∧ w2.cell? ⟨w.heap.size, 3, none⟩ = some x ∧ w2.ownsRow w.heap.size 5 1 (.slice A n c) (grp q ++ sb s).length (bv (grp q ++ sb s)) ∧ Below w.heap.size w w2 := by
  have hs1 := hb.size
  have d1 := (hb.cell (p := ⟨w.heap.size, 3, none⟩) (by show w.heap.size < _; omega)).trans hc
  obtain ⟨v', w2, hrun, ho2, hg2, _⟩ := app_str w1 (w.heap.size + 1) _ (grp q) (ownsRow_base ho hWs) s (by have := (grp_len q).1; omega) (by omega)
  obtain ⟨A, n, c, rfl⟩ : ∃ A n c, v' = Value.slice A n c := by
    rcases ho2.2 with ⟨h1, _⟩ | ⟨g, cap, _, h1, _⟩
    · exact ⟨none, 0, 0, h1⟩
    · exact ⟨_, _, cap, h1⟩
  have h8 := hg2.block w.heap.size (by omega) (fun e => by have := (ho.lt _ e.symm).1; omega)
  refine ⟨A, n, c, w2, hrun, d1, (cell_same h8 3).trans d1, ?_, (hW.trans (hb.mono hW.size)).grown hg2 (by omega) (fun j hj => by have := (ho.lt j hj).1; omega)⟩
  rw [List.length_append, bv_app]
  exact ownsRow_base ho2 (Nat.le_succ _)
set_option maxRecDepth 100000 in
set_option maxHeartbeats 1000000 in
theorem lbytes_3 (w : World) (k n : Int) (lo : Nat) (s : ByteArray) (m : Int) (hk : (IntKind.u64.wrap k).tmod 5 = ((3 : Nat) : Int)) (hs : s.size ≤ 300) :
    Calls Try.prog 8 #[partV k n (lo : Int) s m] w (BytTo w (pbytes 3 n lo s) (pok 3 n)) := by
  have hB : Below w.heap.size w (w.alloc (partO k n lo s m)) := (Below.refl _ _).alloc (Nat.le_refl _) _
  unfold partV partO at *
  show Calls _ _ _ _ (BytTo w (grp s.size ++ sb s) true)
  obtain ⟨q, hq⟩ : ∃ q, q = s.size := ⟨_, rfl⟩
  have hq2 : s.size = q := hq.symm
  have HC := Lib.hid (fgroups_any ((w.alloc (.cells #[.int .i64 k, .int .i64 n, .int .u64 lo, .string s, .int .i64 m] 32)).drew) q (by omega))
  have HB := Lib.hid hB
  have c1 : (w.alloc (.cells #[.int .i64 k, .int .i64 n, .int .u64 lo, .string s, .int .i64 m] 32)).cell? ⟨w.heap.size, 3, none⟩ = some (.string s) := by
    have := block_new w (.cells #[.int .i64 k, .int .i64 n, .int .u64 lo, .string s, .int .i64 m] 32)
    simp only [World.cell?]; rw [this]; rfl
  have HCC : Hid (((w.alloc (.cells #[.int .i64 k, .int .i64 n, .int .u64 lo, .string s, .int .i64 m] 32)).drew).cell? ⟨w.heap.size, 3, none⟩ = some (.string s)) := c1
  have HSL := Lib.hid hq2
  have HBW : Hid (Below w.heap.size w ((w.alloc (.cells #[.int .i64 k, .int .i64 n, .int .u64 lo, .string s, .int .i64 m] 32)).drew) ∧ w.heap.size + 1 ≤ ((w.alloc (.cells #[.int .i64 k, .int .i64 n, .int .u64 lo, .string s, .int .i64 m] 32)).drew).heap.size) := ⟨hB.trans ((Below.refl _ _).drew), by simp⟩
  have hq300 : q ≤ 300 := by omega
  have hwq : IntKind.u64.wrap (q : Int) = (q : Int) := by rw [IntKind.wrap_u64]; omega
  rw [hq2]
  clear hq hB c1 hs
  go_enter Try.func8, Try.ntmps8
  go_wp2_with fail
  go_region_held3 (fun w' => w'.cell? ⟨w.heap.size, 3, none⟩ = some (.string s))
    (first
      | (exact d2)
      | (exact d1)
      | (exact HCC.out)
      | go_keep)
    (first
      | (refine step_app_run w1 (by rfl) (.tmp 39) (.tmp 41) 27 9 (by rfl) (.slice A1 n1 c1) (.string s) (by rfl) (by rfl) (.slice A2 n2 c2) w2 hrun ?_)
      | (go_at_call 27; refine HC.out.mono ?_; rintro e w1 ⟨v, rfl, ho, hb⟩
         obtain ⟨A1, n1, c1, rfl⟩ : ∃ A n c, v = Value.slice A n c := (by obtain ⟨A, c, h, _⟩ := BAt.of_own ho; exact ⟨A, _, c, h⟩)
         obtain ⟨A2, n2, c2, w2, hrun, d1, d2, hho2, hhb2⟩ := byt3 w _ w1 _ s q A1 n1 c1 HBW.out.1 HBW.out.2 HSL.out hq300 ho hb HCC.out
         have HO2 := Lib.hid hho2
         have HB2 := Lib.hid hhb2
         clear ho hb hho2 hhb2))
  all_goals
    go_wp2
    go_ret2
    exact BytTo.mk HO2.out HB2.out
end Go.Proofs.Ytmicmldhjmadcaa.Oc
