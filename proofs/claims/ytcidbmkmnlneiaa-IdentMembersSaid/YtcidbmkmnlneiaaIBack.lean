/-
  The contract of the function that ident's digitsBack gives: it hands out the digits of an ISIN's first 11 bytes from the last one to the first, to every loop's body that keeps the text's box. Conditions: the text has that form.
-/
import Derived.RangeFuncNested
import Derived.RangeFuncBound
import Derived.RangeFuncCalls
import Derived.RangeFuncLeaves
import Derived.RangeFuncBox
import Derived.Shelf.Abstract
import Derived.Shelf.RegionOpen
import Derived.OwnWalkIn
import Derived.TacticsInMore
import Derived.LoopNIn
import Derived.LoopIn
import Derived.Test.YtcidbmkmnlneiaaIHead
namespace Go.Proofs.Ytcidbmkmnlneiaa.Id
open Go.RowKit Go.Shelf
attribute [local go_sem] Oper.semAt_some

/-- A digit. -/
abbrev Dg := { x : Int // 0 ≤ x ∧ x ≤ 9 }
def vals (l : List Dg) : List Int := l.map (·.1)
theorem vals_snoc (l : List Dg) (x : Dg) : vals (l ++ [x]) = vals l ++ [x.1] := by simp [vals]
theorem vals_len (l : List Dg) : (vals l).length = l.length := by simp [vals]
/-- A round keeps the block. -/
def KeepB (b : Nat) (W W' : World) : Prop := W'.heap[b]? = W.heap[b]?
theorem keepB_t {b : Nat} {A B C : World} (h : KeepB b A B) (k : KeepB b B C) : KeepB b A C := k.trans h
theorem keepB_b {b : Nat} {w : World} (hb : b < w.heap.size) (W : World) (l : Nat) (o o' : Obj) (hl : w.heap.size ≤ l) (_ : W.heap[l]? = some o) (_ : o.isCells = false) (_ : o.isWalk = false) : KeepB b W (W.putObj l o') :=
  World.putObj_heap_other (by omega)

set_option maxHeartbeats 1000000 in
theorem digitsBack_any (s : ByteArray) (w : World) :
    Calls Try.prog 31 #[.string s] w fun e w' => e = .returned (.func (.func 32) #[] #[.pointer (some ⟨w.heap.size, 0, none⟩)]) ∧ w' = w.alloc (.cells #[.string s] 9) := by
  go_enter Try.func31, Try.ntmps31
  go_wp2
  go_ret
  exact ⟨rfl, rfl⟩

theorem digs1_small {c : Int} (h : numC c < 10) (h0 : 0 ≤ numC c) : digs1 c = [numC c % 10] := by
  unfold digs1
  rw [if_neg (by omega), Int.emod_eq_of_lt h0 h]
theorem digs1_big {c : Int} (h : 10 ≤ numC c) : digs1 c = [numC c / 10, numC c % 10] := by
  unfold digs1
  rw [if_pos h]
theorem back_len {s : ByteArray} (k : Nat) (pre : List Dg) (h : vals pre = (rowF ((sb s).drop k)).reverse) (hs : s.size ≤ 11) : pre.length + 2 * k ≤ 22 ∨ 11 < k := by
  have h1 := congrArg List.length h
  rw [vals_len, List.length_reverse] at h1
  have h2 := rowF_len ((sb s).drop k)
  rw [List.length_drop, sb_len] at h2
  omega

set_option maxRecDepth 100000 in
set_option maxHeartbeats 2000000 in
theorem back1_in (n : Nat) (hn : 1 ≤ n) (l Bs : Nat) (s : ByteArray) (h : headB (sb s) = true) (J Jx : List Dg → World → Prop)
    (hY : ∀ pre x W, J pre W → pre.length < 22 → YieldAt Fence.wide (n - 1) Try.prog l #[.int .i64 x.1] W fun e W' =>
      (e = .returned (.bool true) ∧ J (pre ++ [x]) W' ∧ KeepB Bs W W') ∨ (e = .returned (.bool false) ∧ Jx (pre ++ [x]) W'))
    (W : World) (hBs : W.heap[Bs]? = some (.cells #[.string s] 9 (0, 0))) (h0 : J [] W) :
    CallsIn Fence.wide n Try.prog 32 #[.func (.yield l) #[] #[], .pointer (some ⟨Bs, 0, none⟩)] W fun e W' => (∃ v, e = .returned v) ∧
      ((∃ ys, vals ys = (rowF (sb s)).reverse ∧ J ys W') ∨ (∃ pre, True ∧ Jx pre W')) := by
  have hsz : s.size = 11 := by rw [← sb_len]; exact headB_len h
  have hs1 : s.size ≤ 11 := by omega
  have hs2 : 11 ≤ s.size := by omega
  have HH := Lib.hid h
  have cS := (block_cell hBs).1
  clear hsz h
  refine callsIn_of_wp Try.func32 rfl trivial ?_ rfl
  simp only [Try.ntmps32, List.size_toArray, List.length_cons, List.length_nil, Nat.reduceAdd, Nat.reduceSub, Array.replicate_succ, Array.replicate_zero, List.push_toArray, List.append_toArray, List.nil_append, List.cons_append]
  gi_wp2
  gi_loopw [3] (fun p wr => ∃ (k : Nat) (pre : List Dg), k ≤ s.size ∧ p = .int .i64 ((k : Int) - 1) ∧ Hid (vals pre = (rowF ((sb s).drop k)).reverse ∧ J pre wr ∧ wr.heap[Bs]? = some (.cells #[.string s] 9 (0, 0))))
    (fun p _ => (intOf p + 1).toNat)
  case atStart => exact ⟨s.size, [], Nat.le_refl _, rfl, by rw [List.drop_of_length_le (by rw [sb_len]; exact Nat.le_refl _)]; rfl, h0, hBs⟩
  case round =>
    obtain ⟨k, pre, hk, rfl, hinv⟩ := hrel
    have cS1 := (block_cell hinv.out.2.2).1
    rcases Nat.eq_zero_or_pos k with rfl | hpos
    · have hend : Hid (vals pre = (rowF (sb s)).reverse) := by show _ = _; rw [hinv.out.1]; rfl
      gi_wp2
      go_end0
      exact ⟨⟨_, rfl⟩, .inl ⟨pre, hend.out, hinv.out.2.1⟩⟩
    · obtain ⟨m, rfl⟩ : ∃ m, k = m + 1 := ⟨k - 1, by omega⟩
      have em : ((m + 1 : Nat) : Int) - 1 = (m : Int) := by omega
      rw [em]
      have hlt : m < s.size := by omega
      obtain ⟨c, hc⟩ : ∃ c, c = ((s[m]'hlt).toNat : Int) := ⟨_, rfl⟩
      have hcr : (48 ≤ c ∧ c ≤ 57) ∨ (65 ≤ c ∧ c ≤ 90) := by
        rw [hc, sb_get s m hlt]
        exact head_char HH.out m (by omega)
      have hnr := numC_range hcr
      have hrow : Hid (rowF ((sb s).drop m) = digs1 c ++ rowF ((sb s).drop (m + 1))) := by
        show _ = _
        rw [rowF_drop (by rw [sb_len]; exact hlt), hc, sb_get s m hlt]
      have cn : ∀ w, CallsIn Fence.wide (n - 1) Try.prog 33 #[.int .u8 ((s[m]'hlt).toNat : Int)] w fun e w' => e = .returned (.int .i64 (numC c)) ∧ w = w' := fun w => by
        rw [← hc]; exact callsIn_wide.2 (number_any c w hcr)
      have CN := Lib.hid cn
      have hlen : pre.length + 2 * (m + 1) ≤ 22 := by
        rcases back_len _ _ hinv.out.1 hs1 with h | h <;> omega
      obtain ⟨d, hd⟩ : ∃ d, d = numC c := ⟨_, rfl⟩
      rw [← hd] at hnr
      obtain ⟨d0, d1⟩ := hnr
      have x0 : 0 ≤ d % 10 ∧ d % 10 ≤ 9 := by omega
      obtain ⟨fn, tmps, assign, body, hy, hR⟩ := hY pre ⟨d % 10, x0⟩ wr hinv.out.2.1 (by omega)
      dsimp only at hy
      rw [← hd] at CN
      have HD := Lib.hid hd
      clear hc hcr cn em hd
      gi_wp2_with (refine ⟨trivial, ?_⟩; gi_at_call 33; refine (CN.out _).mono ?_; rintro e w' ⟨rfl, rfl⟩)
      refine hR.mono ?_
      rintro e W3 (⟨rfl, hJ3, hk3⟩ | ⟨rfl, hJx3⟩)
      · have hk4 : wr.heap[Bs]? = some (.cells #[.string s] 9 (0, 0)) → W3.heap[Bs]? = some (.cells #[.string s] 9 (0, 0)) := fun h => hk3.trans h
        have hB3 := Lib.hid (hk4 hinv.out.2.2)
        have HJ3 := Lib.hid hJ3
        have hv3 : Hid (vals (pre ++ [⟨d % 10, x0⟩]) = (rowF ((sb s).drop (m + 1))).reverse ++ [d % 10]) := by show _ = _; rw [vals_snoc, hinv.out.1]
        clear hk3 hk4 hR hy cS1
        by_cases hten : 10 ≤ d
        · have x2 : 0 ≤ d / 10 ∧ d / 10 ≤ 9 := by omega
          obtain ⟨fn, tmps, assign, body, hy, hR⟩ := hY _ ⟨d / 10, x2⟩ W3 HJ3.out (by rw [List.length_append]; simp; omega)
          dsimp only at hy
          have hv4 : Hid (vals (pre ++ [⟨d % 10, x0⟩] ++ [⟨d / 10, x2⟩]) = (rowF ((sb s).drop m)).reverse) := by
            show _ = _
            rw [vals_snoc, hv3.out, hrow.out, digs1_big (by rw [← HD.out]; exact hten), ← HD.out]
            simp
          gi_wp2
          refine hR.mono ?_
          rintro e W4 (⟨rfl, hJ4, hk4⟩ | ⟨rfl, hJx4⟩)
          · have hk5 : W3.heap[Bs]? = some (.cells #[.string s] 9 (0, 0)) → W4.heap[Bs]? = some (.cells #[.string s] 9 (0, 0)) := fun h => hk4.trans h
            have hB4 := Lib.hid (hk5 hB3.out)
            clear hk4 hk5 hR hy
            gi_wp2
            go_roundw
            case rel => exact ⟨m, _, by omega, rfl, hv4.out, hJ4, hB4.out⟩
            case measure => simp [intOf]
          · gi_wp2
            refine bodyPost_ret (results_none rfl _ _ _) rfl ?_
            exact ⟨⟨_, rfl⟩, .inr ⟨_, trivial, hJx4⟩⟩
        · have hv4 : Hid (vals (pre ++ [⟨d % 10, x0⟩]) = (rowF ((sb s).drop m)).reverse) := by
            show _ = _
            rw [hv3.out, hrow.out, digs1_small (by rw [← HD.out]; omega) (by rw [← HD.out]; exact d0), ← HD.out]
            simp
          gi_wp2
          refine ⟨fun _ h => (by cases h), ?_⟩
          gi_wp2
          go_roundw
          case rel => exact ⟨m, _, by omega, rfl, hv4.out, HJ3.out, hB3.out⟩
          case measure => simp [intOf]
      · gi_wp2
        refine bodyPost_ret (results_none rfl _ _ _) rfl ?_
        exact ⟨⟨_, rfl⟩, .inr ⟨_, trivial, hJx3⟩⟩

/-- The function value keeps its contract. -/
theorem back_stops (n : Nat) (hn : 1 ≤ n) (Bs : Nat) (s : ByteArray) (h : headB (sb s) = true) (w : World) (hBs : w.heap[Bs]? = some (.cells #[.string s] 9 (0, 0))) :
    SeqStopsK Fence.wide n Try.prog 32 #[.pointer (some ⟨Bs, 0, none⟩)] (fun x : Dg => #[Value.int .i64 x.1]) (KeepB Bs) (fun ys => vals ys = (rowF (sb s)).reverse) (fun _ => True) 22 w :=
  fun l J Jx W hW _ _ hY h0 => back1_in n hn l Bs s h J Jx hY W (block_kept hBs hW) h0
end Go.Proofs.Ytcidbmkmnlneiaa.Id
