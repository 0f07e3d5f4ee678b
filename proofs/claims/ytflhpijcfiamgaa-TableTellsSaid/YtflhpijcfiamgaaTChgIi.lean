/-
  The contract of Change at a table that is not nil. Conditions: the function handed in answers, and leaves the table and what lay before as they were but for blocks of its own; at most a thousand rows; a table of one's own.
-/
import Derived.Test.YtflhpijcfiamgaaTDelIi
import Derived.Test.YtflhpijcfiamgaaTGetIi
import Derived.Recover
import Derived.Defers
namespace Go.Proofs.Ytflhpijcfiamgaa.Tb.Ii
open Go.RowKit Go.Sort

theorem idle_change (w : World) : CallsD Try.prog 41 #[] .returning w fun e u' w' => e = .returned (.tuple #[]) ∧ u' = .returning ∧ w' = w := by
  refine callsD_of_wpS Try.func41 rfl fun c₀ cs hu => ?_
  first
    | (apply wpS_seq
       apply wpS_region
       simp [wpOpsS, go_sem, recoverD, hu, Try.ntmps41, Exit.thenS, bodyPostS, results, Try.results41])
    | (apply wpS_region
       simp [wpOpsS, go_sem, recoverD, hu, Try.ntmps41, bodyPostS, results, Try.results41])
  all_goals (cases c₀; simp_all)
/-- What Change leaves: the rows; nothing else written but the table's blocks and those of the function's. -/
def ChangedBy (S : Nat → Prop) (Φ : World → Prop) (base : Nat) (w : World) (b : Nat) (sv : Value) (rs : List R) (w' : World) : Prop :=
  ∃ v', TabV base w' b v' rs ∧ Kept (fun x => OwnS b sv x ∨ S x) w w' ∧ (v'.ownBlock = sv.ownBlock ∨ ∃ g, v'.ownBlock = some g ∧ w.heap.size ≤ g) ∧ Φ w'
set_option maxRecDepth 100000 in
set_option maxHeartbeats 4000000 in
theorem change_any (base : Nat) (w : World) (b : Nat) (sv : Value) (l : List R) (k : K) (hT : TabV base w b sv l) (ha : asc l) (hn : l.length ≤ 1000) (hbase : base ≤ w.heap.size)
    (bf : Nat) (fb : Array Value) (eg : ∀ args w, (callFunc bf args).run Try.prog w = .ok (.enter bf args) w) (nv : V) (st : Bool)
    (S : Nat → Prop) (hSb : ¬ S b) (hSv : ∀ g, sv.ownBlock = some g → ¬ S g) (Φ : World → Prop) (hΦ : ∀ W W', w.heap.size ≤ W.heap.size → Φ W → Kept (OwnS b sv) W W' → Φ W')
    (hj : ∀ W, Below w.heap.size w W → Calls Try.prog bf (#[ev (getL l k), .bool (hasB l k)] ++ fb) W fun e W' => e = .returned (.tuple #[ev nv, .bool st]) ∧ Kept S W W' ∧ Φ W') :
    Calls Try.prog 14 #[.pointer (some ⟨b, 0, none⟩), Value.int .i64 k, .func (.func bf) #[] fb] w fun e w' => e = .returned (.tuple #[]) ∧ ChangedBy S Φ base w b sv (if st = true then putL l k nv else dropL l k) w' := by
  have hnf : ∀ w : World, Sem.run Try.prog (binOp .eql 39 (.func (.func bf) #[] fb) .nilFunc) w = .ok (.bool false) w := fun w => by
    first | rfl | kernel_rfl | (simp [binOp, run_underlying Try.underlying39]; done) | (simp [binOp, go_sem, run_underlying Try.underlying39]; done)
  have HG := Lib.hid (get_any w (some ⟨b, 0, none⟩) l k hT.read ha hn)
  have HJ := Lib.hid hj
  have HT := Lib.hid hT
  have HK : Hid (∀ w1 w2, Below w.heap.size w w1 → Kept S w1 w2 → TabV base w2 b sv l ∧ w.heap.size ≤ w2.heap.size ∧ Kept (fun x => OwnS b sv x ∨ S x) w w2) := fun w1 w2 h1 h2 =>
    ⟨(hT.below h1).kept h2 hSb hSv, Nat.le_trans h1.size h2.size, (Kept.of_below h1).trans' h2 (fun i _ e => .inr e)⟩
  have HF : Hid (∀ w2 w3 rs, Kept (fun x => OwnS b sv x ∨ S x) w w2 → w.heap.size ≤ w2.heap.size → Φ w2 → Changed base w2 b sv rs w3 → ChangedBy S Φ base w b sv rs w3) := fun w2 w3 rs h1 hz h2 h3 => by
    obtain ⟨v', h4, h5, h6⟩ := h3
    exact ⟨v', h4, h1.trans' h5 (fun i _ e => .inl e), h6.imp id (fun ⟨g, h7, h8⟩ => ⟨g, h7, Nat.le_trans hz h8⟩), hΦ _ _ hz h2 h5⟩
  have HPUT : Hid (∀ w2, TabV base w2 b sv l → w.heap.size ≤ w2.heap.size → Calls Try.prog 8 #[.pointer (some ⟨b, 0, none⟩), Value.int .i64 k, Value.int .i64 nv] w2 fun e w' => e = .returned (.bool (!hasB l k)) ∧ Changed base w2 b sv (putL l k nv) w') := fun w2 h hz => put_any base w2 b sv l k nv h ha hn (Nat.le_trans hbase hz)
  have HDROP : Hid (∀ w2, TabV base w2 b sv l → Calls Try.prog 12 #[.pointer (some ⟨b, 0, none⟩), Value.int .i64 k] w2 fun e w' => e = .returned (.bool (hasB l k)) ∧ Changed base w2 b sv (dropL l k) w') := fun w2 h => drop_any base w2 b sv l k h ha hn
  clear hj hT ha hΦ
  unfold ev at *
  cases st
  · go_enter_defers Try.func14, Try.ntmps14
    go_wp2_with (first
      | (go_at_call 10; refine HG.out.mono ?_; rintro e w1 ⟨rfl, hb1⟩; have HB1 := Lib.hid hb1; clear hb1)
      | (go_at_fn bf; refine (HJ.out _ HB1.out).mono ?_; rintro e w2 ⟨rfl, hk2, hp2⟩; obtain ⟨t2, z2, k2⟩ := HK.out _ _ HB1.out hk2; have T2 := Lib.hid t2; have K2 := Lib.hid k2; have P2 := Lib.hid hp2; clear t2 k2 hp2 hk2)
      | (go_at_call 12; refine (HDROP.out _ T2.out).mono ?_; rintro e w3 ⟨rfl, hc3⟩; have C3 := Lib.hid (HF.out _ _ _ K2.out z2 P2.out hc3); clear hc3))
    refine leaves_cons (f := 41) (args := #[]) (by simp) (by simp [go_sem]) ?_
    refine (idle_change _).mono ?_
    rintro e u' w'' ⟨rfl, rfl, rfl⟩
    exact ⟨_, results_none rfl _ _ _, rfl, C3.out⟩
  · go_enter_defers Try.func14, Try.ntmps14
    go_wp2_with (first
      | (go_at_call 10; refine HG.out.mono ?_; rintro e w1 ⟨rfl, hb1⟩; have HB1 := Lib.hid hb1; clear hb1)
      | (go_at_fn bf; refine (HJ.out _ HB1.out).mono ?_; rintro e w2 ⟨rfl, hk2, hp2⟩; obtain ⟨t2, z2, k2⟩ := HK.out _ _ HB1.out hk2; have T2 := Lib.hid t2; have K2 := Lib.hid k2; have P2 := Lib.hid hp2; clear t2 k2 hp2 hk2)
      | (go_at_call 8; refine (HPUT.out _ T2.out z2).mono ?_; rintro e w3 ⟨rfl, hc3⟩; have C3 := Lib.hid (HF.out _ _ _ K2.out z2 P2.out hc3); clear hc3))
    refine leaves_cons (f := 41) (args := #[]) (by simp) (by simp [go_sem]) ?_
    refine (idle_change _).mono ?_
    rintro e u' w'' ⟨rfl, rfl, rfl⟩
    exact ⟨_, results_none rfl _ _ _, rfl, C3.out⟩
end Go.Proofs.Ytflhpijcfiamgaa.Tb.Ii
