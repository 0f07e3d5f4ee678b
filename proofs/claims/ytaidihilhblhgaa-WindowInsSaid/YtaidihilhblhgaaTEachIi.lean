/-
  The contracts of give, and of the functions that Each and From give: all rows in order, or those from a key on, to every loop's body that keeps the table's memory. Conditions: at most a thousand rows.
-/
import Derived.Test.YtaidihilhblhgaaTRowIi
namespace Go.Proofs.Ytaidihilhblhgaa.Tb.Ii
open Go.RowKit Go.Shelf
attribute [local go_sem] Oper.semAt_some

theorem yield_any {m : Nat} (m' : Nat) {P : Program} {l : Nat} {args : Array Value} {W : World} {Q : Ending → World → Prop} (h : YieldAt Fence.wide m P l args W Q) : YieldAt Fence.wide m' P l args W Q := by
  obtain ⟨fn, tmps, assign, body, hy, h1, h2⟩ := h
  exact ⟨fn, tmps, assign, body, hy, h1, fun c cs _ => h2 c cs (fun d h => by cases h)⟩
theorem abides_alloc {β : Type} {B : Nat} {J : β → World → Prop} (h : AbidesFrom B J) {s : β} {W : World} (hs : J s W) (o : Obj) : J s (W.alloc o) :=
  h s W (W.alloc o) none hs ⟨rfl, rfl, rfl, by simp, fun k hk _ => Below.heap_alloc _ _ _ hk⟩ (fun r e => by cases e)

set_option maxRecDepth 100000 in
set_option maxHeartbeats 2000000 in
theorem give_in (n m l B : Nat) (hn1 : 1 ≤ n) (wT : World) (v : Value) (rs : List R) (hr : RowsR wT v rs) (hn : rs.length ≤ 1000) (J Jx : List R → World → Prop) (hJ : AbidesFrom B J)
    (hY : ∀ pre x W, J pre W → pre.length < rs.length → YieldAt Fence.wide m Try.prog l #[Value.int .i64 x.1, Value.int .i64 x.2] W fun e W' =>
      (e = .returned (.bool true) ∧ J (pre ++ [x]) W' ∧ Below wT.heap.size W W') ∨ (e = .returned (.bool false) ∧ Jx (pre ++ [x]) W'))
    (W : World) (hW : Below wT.heap.size wT W) (h0 : J [] W) :
    CallsIn Fence.wide n Try.prog 56 #[v, .func (.yield l) #[] #[]] W fun e W' => (∃ v, e = .returned v) ∧ ((∃ ys, ys = rs ∧ J ys W') ∨ (∃ pre, pre <+: rs ∧ Jx pre W')) := by
  obtain ⟨A, cap, rfl, _, _, h3⟩ := hr
  have H3 := Lib.hid h3
  have HY := Lib.hid hY
  clear h3 hY
  refine callsIn_of_wp Try.func56 rfl trivial ?_ rfl
  simp only [Try.ntmps56, List.size_toArray, List.length_cons, List.length_nil, Nat.reduceAdd, Nat.reduceSub, Array.replicate_succ, Array.replicate_zero, List.push_toArray, List.append_toArray, List.nil_append, List.cons_append]
  gi_wp2
  gi_loopw [8] (fun i wr => ∃ k : Nat, k ≤ rs.length ∧ i = .int .i64 (k : Int) ∧ Hid (J (rs.take k) wr ∧ Below wT.heap.size wT wr))
    (fun i _ => rs.length - (intOf i).toNat)
  case atStart => exact ⟨0, Nat.zero_le _, rfl, h0, hW⟩
  case round =>
    obtain ⟨k, hk, rfl, hinv⟩ := hrel
    by_cases hlt : k < rs.length
    · obtain ⟨r, hr⟩ : ∃ r, rs[k]? = some r := ⟨_, List.getElem?_eq_getElem hlt⟩
      rcases H3.out with ⟨rfl, rfl⟩ | ⟨g, o, rfl, hg, hcell⟩
      · simp at hr
      have hc := hcell k r hr
      have c1 : wr.cell? ⟨g, o + k * 2, none⟩ = some (Value.int .i64 r.1) := (hinv.out.2.cell (p := ⟨g, o + k * 2, none⟩) hg).trans hc.1
      have c2 : wr.cell? ⟨g, o + k * 2 + 1, none⟩ = some (Value.int .i64 r.2) := (hinv.out.2.cell (p := ⟨g, o + k * 2 + 1, none⟩) hg).trans hc.2
      have hts : Hid (rs.take (k + 1) = rs.take k ++ [r]) := by
        show _ = _
        rw [List.take_succ_eq_append_getElem hlt]
        rw [List.getElem?_eq_getElem hlt] at hr
        rw [Option.some.inj hr]
      obtain ⟨fn, tmps, assign, body, hy, hR⟩ := yield_any (n - 1) (HY.out (rs.take k) r (wr.alloc (.cells #[Value.int .i64 r.1, Value.int .i64 r.2] 98)) (abides_alloc hJ hinv.out.1 _) (by rw [List.length_take]; omega))
      have HB : Hid (Below wT.heap.size wT (wr.alloc (.cells #[Value.int .i64 r.1, Value.int .i64 r.2] 98))) := hinv.out.2.alloc (by have := hinv.out.2.size; omega) _
      clear hc hcell hr
      gi_wp2
      refine hR.mono ?_
      rintro e W3 (⟨rfl, hJ3, hk3⟩ | ⟨rfl, hJx3⟩)
      · have HJ3 := Lib.hid hJ3
        have HK3 := Lib.hid hk3
        clear hJ3 hk3 hy hR
        gi_wp2
        go_roundw
        case rel => exact ⟨k + 1, by omega, by go_num, by rw [hts.out]; exact HJ3.out, HB.out.trans HK3.out⟩
        case measure => simp [intOf]; omega
      · have HJ3 := Lib.hid hJx3
        clear hJx3 hy hR
        gi_wp2
        refine bodyPost_ret (results_none rfl _ _ _) rfl ?_
        exact ⟨⟨_, rfl⟩, .inr ⟨_, by rw [← hts.out]; exact List.take_prefix _ _, HJ3.out⟩⟩
    · obtain rfl : k = rs.length := by omega
      gi_wp2
      go_end0
      exact ⟨⟨_, rfl⟩, .inl ⟨_, List.take_of_length_le (Nat.le_refl _), hinv.out.1⟩⟩

set_option maxHeartbeats 1000000 in
theorem each_any (p : Option Addr) (w : World) :
    Calls Try.prog 42 #[.pointer p] w fun e w' => e = .returned (.func (.func 55) #[] #[.pointer (some ⟨w.heap.size, 0, none⟩)]) ∧ w' = w.alloc (.cells #[.pointer p] 96) := by
  go_enter Try.func42, Try.ntmps42
  go_wp2
  go_ret
  exact ⟨rfl, rfl⟩
set_option maxRecDepth 100000 in
set_option maxHeartbeats 2000000 in
theorem each1_in (n m l B Bs : Nat) (hn1 : 2 ≤ n) (wT : World) (p : Option Addr) (rs : List R) (hr : TabR wT p rs) (hn : rs.length ≤ 1000) (J Jx : List R → World → Prop) (hJ : AbidesFrom B J)
    (hY : ∀ pre x W, J pre W → pre.length < rs.length → YieldAt Fence.wide m Try.prog l #[Value.int .i64 x.1, Value.int .i64 x.2] W fun e W' =>
      (e = .returned (.bool true) ∧ J (pre ++ [x]) W' ∧ Below wT.heap.size W W') ∨ (e = .returned (.bool false) ∧ Jx (pre ++ [x]) W'))
    (W : World) (hW : Below wT.heap.size wT W) (hBs : W.cell? ⟨Bs, 0, none⟩ = some (.pointer p)) (h0 : J [] W) :
    CallsIn Fence.wide n Try.prog 55 #[.func (.yield l) #[] #[], .pointer (some ⟨Bs, 0, none⟩)] W fun e W' => (∃ v, e = .returned v) ∧ ((∃ ys, ys = rs ∧ J ys W') ∨ (∃ pre, pre <+: rs ∧ Jx pre W')) := by
  obtain ⟨v, hv, ha⟩ := all_any wT p rs hr
  have HA := Lib.hid (callsIn_wide (n := n - 1).2 (ha W hW))
  have HG := Lib.hid (give_in (n - 1) m l B (by omega) wT v rs hv hn J Jx hJ hY W hW h0)
  have hn2 : 1 ≤ n := by omega
  clear ha hY h0 hr
  refine callsIn_of_wp Try.func55 rfl trivial ?_ rfl
  simp only [Try.ntmps55, List.size_toArray, List.length_cons, List.length_nil, Nat.reduceAdd, Nat.reduceSub, Array.replicate_succ, Array.replicate_zero, List.push_toArray, List.append_toArray, List.nil_append, List.cons_append]
  gi_wp2_with (first
    | (refine ⟨trivial, ?_⟩; gi_at_call 57; refine HA.out.mono ?_; rintro e w' ⟨rfl, rfl⟩)
    | (refine ⟨trivial, ?_⟩; gi_at_call 56; refine HG.out.mono ?_; rintro e w' ⟨⟨v', rfl⟩, hpost⟩))
  have HP := Lib.hid hpost
  clear hpost
  go_end0
  exact ⟨⟨_, rfl⟩, HP.out⟩
theorem each_stops (n : Nat) (hn1 : 2 ≤ n) (Bs : Nat) (wT : World) (p : Option Addr) (rs : List R) (hr : TabR wT p rs) (hn : rs.length ≤ 1000) (w : World) (hw : Below wT.heap.size wT w) (hBs : w.heap[Bs]? = some (.cells #[.pointer p] 96 (0, 0))) :
    SeqStopsK Fence.wide n Try.prog 55 #[.pointer (some ⟨Bs, 0, none⟩)] (fun x : R => #[Value.int .i64 x.1, Value.int .i64 x.2]) (Below wT.heap.size) (fun ys => ys = rs) (fun pre => pre <+: rs) rs.length w :=
  fun l J Jx W hW hJ _ hY h0 => each1_in n (n - 1) l W.heap.size Bs hn1 wT p rs hr hn J Jx hJ hY W (hw.trans (hW.mono hw.size)) (block_cell (block_kept hBs hW)).1 h0

end Go.Proofs.Ytaidihilhblhgaa.Tb.Ii
