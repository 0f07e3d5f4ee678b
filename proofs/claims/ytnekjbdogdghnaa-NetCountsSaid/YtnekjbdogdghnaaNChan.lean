/-
  send and receive of boxes of packets: a select of one case with a default, in one goroutine. Conditions: the channel's block.
-/
import Derived.Test.YtnekjbdogdghnaaBBase
namespace Go.Proofs.Ytnekjbdogdghnaa.Ne
open Go.RowKit Go.Conc Bx

set_option maxRecDepth 100000 in
theorem send_room (w : World) (c cap s r : Nat) (buf : Array Value) (tm : Bool) (v : Value) (hc : w.heap[c]? = some (.chan cap buf false s r tm)) (hr : buf.size < cap) :
    Calls Try.prog 43 #[.chan (some c), v] w fun e w' => e = .returned (.bool true) ∧ w' = w.setChan c cap (buf.push v) false (s + 1) r tm := by
  refine calls_of_loneTo (fun cs => ?_) (by rintro _ ⟨h, _⟩; cases h)
  have e : Frame.enter Try.prog 43 #[.chan (some c), v] .normal = (base 43).at ⟨#[.chan (some c), v, undef, undef, undef, undef, undef, undef, undef, undef], []⟩ [.code (Try.f43.body.getD .skip)] := by
    simp [Frame.enter, Frame.at, Try.func43, base, Try.f43]
  rw [e]
  refine LoneTo.goes (n := 30) ?_
  simp only [Try.f43, Option.getD_some]
  s_c stepG_seq
  s_reg
  s_op
  s_c stepG_region_end
  s_c stepG_seq
  s_c stepG_seq
  s_reg
  s_op
  s_c stepG_region_end
  s_reg
  s_op
  s_c stepG_region_end
  s_c stepG_seq
  s_reg
  s_stop
  refine LoneTo.step (step_lone_select_send_room (c := c) (cap := cap) (buf := buf) (s := s) (r := r) (tm := tm)
    (stepG_comm (cases := #[scase c v (.pointer none)]) (blocking := false) (shape := .select) (w' := w) rfl rfl (by decide) (by simp [go_sem, execOp, scase, Act.eval])) hc hr) ?_
  rw [Frame.finish_at]
  walk_nrm
  refine LoneTo.goes (n := 30) ?_
  s_op
  s_op
  s_c stepG_region_end
  s_c stepG_block
  s_cond true
  s_c stepG_seq
  s_reg
  s_op
  s_c stepG_region_end
  s_c stepG_ret'
  s_stop
  exact LoneTo.done ⟨.returned (.bool true), _, rfl, ⟨rfl, rfl⟩, rfl, rfl, rfl, rfl, _, Try.func43, by simp [results, Try.f43, Frame.at]⟩

set_option maxRecDepth 100000 in
theorem send_full (w : World) (c cap s r : Nat) (buf : Array Value) (tm : Bool) (v : Value) (hc : w.heap[c]? = some (.chan cap buf false s r tm)) (hr : cap ≤ buf.size) :
    Calls Try.prog 43 #[.chan (some c), v] w fun e w' => e = .returned (.bool false) ∧ w' = w := by
  refine calls_of_loneTo (fun cs => ?_) (by rintro _ ⟨h, _⟩; cases h)
  have e : Frame.enter Try.prog 43 #[.chan (some c), v] .normal = (base 43).at ⟨#[.chan (some c), v, undef, undef, undef, undef, undef, undef, undef, undef], []⟩ [.code (Try.f43.body.getD .skip)] := by
    simp [Frame.enter, Frame.at, Try.func43, base, Try.f43]
  rw [e]
  refine LoneTo.goes (n := 30) ?_
  simp only [Try.f43, Option.getD_some]
  s_c stepG_seq
  s_reg
  s_op
  s_c stepG_region_end
  s_c stepG_seq
  s_c stepG_seq
  s_reg
  s_op
  s_c stepG_region_end
  s_reg
  s_op
  s_c stepG_region_end
  s_c stepG_seq
  s_reg
  s_stop
  refine LoneTo.step (step_lone_select_send_full (c := c) (cap := cap) (buf := buf) (s := s) (r := r) (tm := tm)
    (stepG_comm (cases := #[scase c v (.pointer none)]) (blocking := false) (shape := .select) (w' := w) rfl rfl (by decide) (by simp [go_sem, execOp, scase, Act.eval])) hc hr) ?_
  rw [Frame.finish_at]
  walk_nrm
  refine LoneTo.goes (n := 30) ?_
  s_op
  s_op
  s_c stepG_region_end
  s_c stepG_block
  s_cond false
  s_c stepG_seq
  s_reg
  s_op
  s_c stepG_region_end
  s_c stepG_ret'
  s_stop
  exact LoneTo.done ⟨.returned (.bool false), _, rfl, ⟨rfl, rfl⟩, rfl, rfl, rfl, rfl, _, Try.func43, by simp [results, Try.f43, Frame.at]⟩

set_option maxRecDepth 100000 in
theorem recv_some (w : World) (c cap s r : Nat) (buf : Array Value) (tm cl : Bool) (hc : w.heap[c]? = some (.chan cap buf cl s r tm)) (hr : 0 < buf.size) (x : Value) (hx : buf.getD 0 undef = x) :
    Calls Try.prog 41 #[.chan (some c)] w fun e w' => e = .returned (.tuple #[x, .bool true]) ∧ w' = w.setChan c cap (buf.extract 1 buf.size) cl s (r + 1) tm := by
  refine calls_of_loneTo (fun cs => ?_) (by rintro _ ⟨h, _⟩; cases h)
  have e : Frame.enter Try.prog 41 #[.chan (some c)] .normal = (base 41).at ⟨#[.chan (some c), undef, undef, undef, undef, undef, undef, undef, undef, undef, undef], []⟩ [.code (Try.f41.body.getD .skip)] := by
    simp [Frame.enter, Frame.at, Try.func41, base, Try.f41]
  have hz : Try.t85.zero = some (.pointer none) := by kernel_rfl
  rw [e]
  refine LoneTo.goes (n := 30) ?_
  simp only [Try.f41, Option.getD_some]
  s_c stepG_seq
  s_reg
  s_op
  s_op
  s_c stepG_region_end
  s_c stepG_seq
  s_reg
  s_op
  s_c stepG_region_end
  s_c stepG_seq
  s_reg
  s_stop
  refine LoneTo.step (step_lone_select_recv_buf (c := c) (cap := cap) (buf := buf) (s := s) (r := r) (tm := tm) (closed := cl)
    (stepG_comm (cases := #[rcase c (.pointer none)]) (blocking := false) (shape := .select) (w' := w) rfl rfl (by decide) (by simp [go_sem, execOp, rcase, Act.eval, Sem.run, pure, Result.andThen])) hc hr) ?_
  rw [Frame.finish_at, hx]
  walk_nrm
  refine LoneTo.goes (n := 40) ?_
  s_op
  s_op
  s_c stepG_region_end
  s_c stepG_block
  s_cond true
  s_c stepG_seq
  s_reg
  s_op
  s_op
  s_c stepG_region_end
  s_c stepG_seq
  s_reg
  s_op
  s_op
  s_op
  s_c stepG_region_end
  s_c stepG_ret'
  s_stop
  exact LoneTo.done ⟨.returned (.tuple #[x, .bool true]), _, rfl, ⟨rfl, rfl⟩, rfl, rfl, rfl, rfl, _, Try.func41, by simp [results, Try.f41, Frame.at]⟩

set_option maxRecDepth 100000 in
theorem recv_none (w : World) (c cap s r : Nat) (tm : Bool) (hc : w.heap[c]? = some (.chan cap #[] false s r tm)) :
    Calls Try.prog 41 #[.chan (some c)] w fun e w' => e = .returned (.tuple #[.pointer none, .bool false]) ∧ w' = w := by
  refine calls_of_loneTo (fun cs => ?_) (by rintro _ ⟨h, _⟩; cases h)
  have e : Frame.enter Try.prog 41 #[.chan (some c)] .normal = (base 41).at ⟨#[.chan (some c), undef, undef, undef, undef, undef, undef, undef, undef, undef, undef], []⟩ [.code (Try.f41.body.getD .skip)] := by
    simp [Frame.enter, Frame.at, Try.func41, base, Try.f41]
  have hz : Try.t85.zero = some (.pointer none) := by kernel_rfl
  rw [e]
  refine LoneTo.goes (n := 30) ?_
  simp only [Try.f41, Option.getD_some]
  s_c stepG_seq
  s_reg
  s_op
  s_op
  s_c stepG_region_end
  s_c stepG_seq
  s_reg
  s_op
  s_c stepG_region_end
  s_c stepG_seq
  s_reg
  s_stop
  refine LoneTo.step (step_lone_select_default (c := c) (cap := cap) (s := s) (r := r) (tm := tm)
    (stepG_comm (cases := #[rcase c (.pointer none)]) (blocking := false) (shape := .select) (w' := w) rfl rfl (by decide) (by simp [go_sem, execOp, rcase, Act.eval, Sem.run, pure, Result.andThen])) hc) ?_
  rw [Frame.finish_at]
  walk_nrm
  refine LoneTo.goes (n := 40) ?_
  s_op
  s_op
  s_c stepG_region_end
  s_c stepG_block
  s_cond false
  s_c stepG_seq
  s_reg
  s_op
  s_op
  s_c stepG_region_end
  s_c stepG_ret'
  s_stop
  exact LoneTo.done ⟨.returned (.tuple #[.pointer none, .bool false]), _, rfl, ⟨rfl, rfl⟩, rfl, rfl, rfl, rfl, _, Try.func41, by simp [results, Try.f41, Frame.at]⟩

set_option maxRecDepth 100000 in
theorem recv_nil (w : World) :
    Calls Try.prog 41 #[.chan none] w fun e w' => e = .returned (.tuple #[.pointer none, .bool false]) ∧ w' = w := by
  refine calls_of_loneTo (fun cs => ?_) (by rintro _ ⟨h, _⟩; cases h)
  have e : Frame.enter Try.prog 41 #[.chan none] .normal = (base 41).at ⟨#[.chan none, undef, undef, undef, undef, undef, undef, undef, undef, undef, undef], []⟩ [.code (Try.f41.body.getD .skip)] := by
    simp [Frame.enter, Frame.at, Try.func41, base, Try.f41]
  have hz : Try.t85.zero = some (.pointer none) := by kernel_rfl
  rw [e]
  refine LoneTo.goes (n := 30) ?_
  simp only [Try.f41, Option.getD_some]
  s_c stepG_seq
  s_reg
  s_op
  s_op
  s_c stepG_region_end
  s_c stepG_seq
  s_reg
  s_op
  s_c stepG_region_end
  s_c stepG_seq
  s_reg
  s_stop
  refine LoneTo.step (step_lone_select_recv_nil
    (stepG_comm (cases := #[rcaseNil (.pointer none)]) (blocking := false) (shape := .select) (w' := w) rfl rfl (by decide) (by simp [go_sem, execOp, rcaseNil, Act.eval, Sem.run, pure, Result.andThen]))) ?_
  rw [Frame.finish_at]
  walk_nrm
  refine LoneTo.goes (n := 40) ?_
  s_op
  s_op
  s_c stepG_region_end
  s_c stepG_block
  s_cond false
  s_c stepG_seq
  s_reg
  s_op
  s_op
  s_c stepG_region_end
  s_c stepG_ret'
  s_stop
  exact LoneTo.done ⟨.returned (.tuple #[.pointer none, .bool false]), _, rfl, ⟨rfl, rfl⟩, rfl, rfl, rfl, rfl, _, Try.func41, by simp [results, Try.f41, Frame.at]⟩

end Go.Proofs.Ytnekjbdogdghnaa.Ne
