/-
  A nil table: Put, Drop and Change do nothing; Copy of a table. Conditions: at most a thousand rows.
-/
import Derived.Test.YtflhpijcfiamgaaTOfIi
import Derived.Test.YtflhpijcfiamgaaTRwsIi
import Derived.Test.YtflhpijcfiamgaaTAtIi
import Derived.Defers
import Derived.Recover
namespace Go.Proofs.Ytflhpijcfiamgaa.Tb.Ii
open Go.RowKit Go.Sort

set_option maxRecDepth 100000 in
theorem put_nil (k : K) (v : V) (w : World) : Calls Try.prog 8 #[.pointer none, Value.int .i64 k, Value.int .i64 v] w fun e w' => e = .returned (.bool false) ∧ w = w' := by
  go_enter Try.func8, Try.ntmps8
  go_wp2
  go_ret
  exact ⟨rfl, rfl⟩
set_option maxRecDepth 100000 in
theorem drop_nil (k : K) (w : World) : Calls Try.prog 12 #[.pointer none, Value.int .i64 k] w fun e w' => e = .returned (.bool false) ∧ Below w.heap.size w w' := by
  have hf := Lib.hid (find_any w none [] k (.inl ⟨rfl, rfl⟩) List.Pairwise.nil (by decide))
  go_enter Try.func12, Try.ntmps12
  go_wp2_with (go_at_call 37; refine hf.out.mono ?_; rintro e w' ⟨rfl, hb⟩)
  go_ret
  exact ⟨rfl, hb⟩
set_option maxRecDepth 100000 in
theorem change_nil (k : K) (f : Value) (w : World) : Calls Try.prog 14 #[.pointer none, Value.int .i64 k, f] w fun e w' => e = .returned (.tuple #[]) ∧ w = w' := by
  go_enter_defers Try.func14, Try.ntmps14
  go_wp2
  exact ⟨_, results_none rfl _ _ _, rfl, rfl⟩
set_option maxRecDepth 100000 in
theorem copy_any (w : World) (p : Option Addr) (rs : List R) (h : TabR w p rs) (hn : rs.length ≤ 1000) : Calls Try.prog 17 #[.pointer p] w (MadeT w rs) := by
  have hr := Lib.hid (rows_any w p rs h hn)
  clear h
  go_enter Try.func17, Try.ntmps17
  go_wp2_with (go_at_call 21; refine hr.out.mono ?_; rintro e w1 ⟨v, rfl, ho, hnn, hb⟩; obtain ⟨g, cap, rfl⟩ := (Go.Joins.ownsRow_forms ho).resolve_left (fun h => hnn h.1); have HO := Lib.hid ho; have HB := Lib.hid hb; clear ho hnn hb)
  go_ret
  have hz := HB.out.size
  exact ⟨w1.heap.size, rfl, ⟨hz, _, Boxed.new _ _ _, HO.out.alloc _⟩, HB.out.alloc hz _⟩
end Go.Proofs.Ytflhpijcfiamgaa.Tb.Ii
