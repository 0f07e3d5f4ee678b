/-
  send and receive: a select of one case with a default, in one goroutine. Conditions: the channel's block.
-/
import Derived.Test.YtlhdhgagglpphaaBBase
namespace Go.Proofs.Ytlhdhgagglpphaa.Bx.S
open Go.RowKit Go.Conc

set_option maxRecDepth 100000 in
theorem send_room (w : World) (c cap s r : Nat) (buf : Array Value) (tm : Bool) (v : Value) (hc : w.heap[c]? = some (.chan cap buf false s r tm)) (hr : buf.size < cap) :
    Calls Try.prog 23 #[.chan (some c), v] w fun e w' => e = .returned (.bool true) ∧ w' = w.setChan c cap (buf.push v) false (s + 1) r tm := by
  refine calls_of_loneTo (fun cs => ?_) (by rintro _ ⟨h, _⟩; cases h)
  have e : Frame.enter Try.prog 23 #[.chan (some c), v] .normal = (base 23).at ⟨#[.chan (some c), v, undef, undef, undef, undef, undef, undef, undef, undef], []⟩ [.code (Try.f23.body.getD .skip)] := by
    simp [Frame.enter, Frame.at, Try.func23, base, Try.f23]
  rw [e]
  refine LoneTo.goes (n := 30) ?_
  simp only [Try.f23, Option.getD_some]
  s_c stepG_seq
  s_reg
  s_op
  s_c stepG_region_end
  s_c stepG_seq
  s_c stepG_seq
  s_reg
  s_op
  s_c stepG_region_end
  s_reg
  s_op
  s_c stepG_region_end
  s_c stepG_seq
  s_reg
  s_stop
  refine LoneTo.step (step_lone_select_send_room (c := c) (cap := cap) (buf := buf) (s := s) (r := r) (tm := tm)
    (stepG_comm (cases := #[scase c v (.pointer none)]) (blocking := false) (shape := .select) (w' := w) rfl rfl (by decide) (by simp [go_sem, execOp, scase, Act.eval])) hc hr) ?_
  rw [Frame.finish_at]
  walk_nrm
  refine LoneTo.goes (n := 30) ?_
  s_op
  s_op
  s_c stepG_region_end
  s_c stepG_block
  s_cond true
  s_c stepG_seq
  s_reg
  s_op
  s_c stepG_region_end
  s_c stepG_ret'
  s_stop
  exact LoneTo.done ⟨.returned (.bool true), _, rfl, ⟨rfl, rfl⟩, rfl, rfl, rfl, rfl, _, Try.func23, by simp [results, Try.f23, Frame.at]⟩

set_option maxRecDepth 100000 in
theorem send_full (w : World) (c cap s r : Nat) (buf : Array Value) (tm : Bool) (v : Value) (hc : w.heap[c]? = some (.chan cap buf false s r tm)) (hr : cap ≤ buf.size) :
    Calls Try.prog 23 #[.chan (some c), v] w fun e w' => e = .returned (.bool false) ∧ w' = w := by
  refine calls_of_loneTo (fun cs => ?_) (by rintro _ ⟨h, _⟩; cases h)
  have e : Frame.enter Try.prog 23 #[.chan (some c), v] .normal = (base 23).at ⟨#[.chan (some c), v, undef, undef, undef, undef, undef, undef, undef, undef], []⟩ [.code (Try.f23.body.getD .skip)] := by
    simp [Frame.enter, Frame.at, Try.func23, base, Try.f23]
  rw [e]
  refine LoneTo.goes (n := 30) ?_
  simp only [Try.f23, Option.getD_some]
  s_c stepG_seq
  s_reg
  s_op
  s_c stepG_region_end
  s_c stepG_seq
  s_c stepG_seq
  s_reg
  s_op
  s_c stepG_region_end
  s_reg
  s_op
  s_c stepG_region_end
  s_c stepG_seq
  s_reg
  s_stop
  refine LoneTo.step (step_lone_select_send_full (c := c) (cap := cap) (buf := buf) (s := s) (r := r) (tm := tm)
    (stepG_comm (cases := #[scase c v (.pointer none)]) (blocking := false) (shape := .select) (w' := w) rfl rfl (by decide) (by simp [go_sem, execOp, scase, Act.eval])) hc hr) ?_
  rw [Frame.finish_at]
  walk_nrm
  refine LoneTo.goes (n := 30) ?_
  s_op
  s_op
  s_c stepG_region_end
  s_c stepG_block
  s_cond false
  s_c stepG_seq
  s_reg
  s_op
  s_c stepG_region_end
  s_c stepG_ret'
  s_stop
  exact LoneTo.done ⟨.returned (.bool false), _, rfl, ⟨rfl, rfl⟩, rfl, rfl, rfl, rfl, _, Try.func23, by simp [results, Try.f23, Frame.at]⟩




end Go.Proofs.Ytlhdhgagglpphaa.Bx.S
