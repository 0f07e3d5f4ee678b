/-
  A box of packets in memory; the contracts of New, Put, Len, Take, All. Conditions: the box is open.
-/
import Derived.Test.YtnekjbdogdghnaaNChan
import Derived.Conc.LoneSelectN
import Derived.Lib.SmallJoins
import Derived.Lib.OwnKind
import Derived.Deep.Heap
namespace Go.Proofs.Ytnekjbdogdghnaa.Ne
open Go.RowKit Go.Conc Bx

/-- A packet: its bytes, and whether it was bent. -/
abbrev V := ByteArray × Bool
def ec (x : V) : Array Value := #[.string x.1, .bool x.2]
def ev (x : V) : Value := .agg #[.string x.1, .bool x.2]
def ptrs (q : List (Nat × V)) : Array Value := (q.map fun e => Value.pointer (some ⟨e.1, 0, none⟩)).toArray
/-- The box b with room for cap holds l; all its blocks lie from n0 on. -/
def BoxR (n0 : Nat) (w : World) (b c cap : Nat) (l : List V) : Prop :=
  ∃ s r, ∃ q : List (Nat × V), q.map Prod.snd = l ∧ n0 ≤ b ∧ n0 ≤ c ∧ w.heap[b]? = some (.cells #[.chan (some c), .bool false] 83 (0, 0)) ∧ w.heap[c]? = some (.chan cap (ptrs q) false s r false) ∧
    ∀ e ∈ q, n0 ≤ e.1 ∧ w.heap[e.1]? = some (.cells (ec e.2) 65 (0, 0))
theorem ptrs_size (q : List (Nat × V)) : (ptrs q).size = q.length := by simp [ptrs]
theorem BoxR.lt {n0 : Nat} {w : World} {b c cap : Nat} {l : List V} (h : BoxR n0 w b c cap l) : (n0 ≤ b ∧ b < w.heap.size) ∧ n0 ≤ c ∧ c < w.heap.size := by
  obtain ⟨s, r, q, _, h1, h3, h2, h4, _⟩ := h
  exact ⟨⟨h1, (Array.getElem?_eq_some_iff.1 h2).1⟩, h3, (Array.getElem?_eq_some_iff.1 h4).1⟩
theorem BoxR.kept {n0 : Nat} {w w' : World} {b c cap : Nat} {l : List V} (h : BoxR n0 w b c cap l) (hb : Below w.heap.size w w') : BoxR n0 w' b c cap l := by
  obtain ⟨s, r, q, h0, h1, h2, h3, h4, h5⟩ := h
  exact ⟨s, r, q, h0, h1, h2, block_kept h3 hb, block_kept h4 hb, fun e he => ⟨(h5 e he).1, block_kept (h5 e he).2 hb⟩⟩
theorem BoxR.alloc {n0 : Nat} {w : World} {b c cap : Nat} {l : List V} (h : BoxR n0 w b c cap l) (o : Obj) : BoxR n0 (w.alloc o) b c cap l := h.kept ((Below.refl _ _).alloc (Nat.le_refl _) _)

set_option maxRecDepth 100000 in
theorem chan_nil (w : World) : Calls Try.prog 42 #[.pointer none] w fun e w' => e = .returned (.chan none) ∧ w = w' := by
  go_enter Try.func42, Try.ntmps42
  go_wp2
  go_ret
  exact ⟨rfl, rfl⟩
set_option maxRecDepth 100000 in
theorem chan_any (w : World) (b c : Nat) (sh : Value) (h : w.heap[b]? = some (.cells #[.chan (some c), sh] 83 (0, 0))) : Calls Try.prog 42 #[.pointer (some ⟨b, 0, none⟩)] w fun e w' => e = .returned (.chan (some c)) ∧ w = w' := by
  have h1 := (block_cell2 h).1.1
  go_enter Try.func42, Try.ntmps42
  go_wp2
  go_ret
  exact ⟨rfl, rfl⟩


set_option maxRecDepth 100000 in
theorem len_any (n0 : Nat) (w : World) (b c cap : Nat) (l : List V) (h : BoxR n0 w b c cap l) : Calls Try.prog 39 #[.pointer (some ⟨b, 0, none⟩)] w fun e w' => e = .returned (.int .i64 (l.length : Int)) ∧ w = w' := by
  obtain ⟨s, r, q, h0, h1, h2, h3, h4, h5⟩ := h
  have hl := run_len_chan (P := Try.prog) (w := w) 81 3 Try.underlying81 h4
  have e1 : ((ptrs q).size : Int) = (l.length : Int) := by rw [ptrs_size, ← h0]; simp
  rw [e1] at hl
  go_enter Try.func39, Try.ntmps39
  go_wp2_with (go_at_call 42; refine (chan_any _ _ _ _ h3).mono ?_; rintro e w1 ⟨rfl, rfl⟩)
  go_ret
  exact ⟨rfl, rfl⟩
theorem elInfo : ∃ i, Try.prog.info? 85 = some i ∧ i.bytes = 8 := by
  have h : (Try.prog.info? 85).map (·.bytes) = some 8 := by kernel_rfl
  obtain ⟨i, hi, hb⟩ := Option.map_eq_some_iff.1 h
  exact ⟨i, hi, hb⟩
theorem mk_chan (w : World) (k : Nat) (hk : k ≤ 5000) : (Instr.makeChan 81 (.int .i64 (k : Int))).run Try.prog w = .ok (.chan (some w.heap.size)) (w.alloc (.chan k #[] false 0 0 false)) := by
  obtain ⟨i, hi, hb⟩ := elInfo
  simpa using run_makeChan (P := Try.prog) (w := w) Try.underlying81 hi .i64 k (by omega) (by rw [hb]; omega)

/-- A new box. -/
theorem new_box (n0 : Nat) (w : World) (cap : Nat) (hn : n0 ≤ w.heap.size) : BoxR n0 ((w.alloc (.chan cap #[] false 0 0 false)).alloc (.cells #[.chan (some w.heap.size), .bool false] 83)) (w.heap.size + 1) w.heap.size cap [] := by
  refine ⟨0, 0, [], rfl, by omega, hn, ?_, ?_, fun e he => absurd he (List.not_mem_nil)⟩
  · have := block_new (w.alloc (.chan cap #[] false 0 0 false)) (.cells #[.chan (some w.heap.size), .bool false] 83)
    simpa using this
  · exact block_old (block_new _ _) _
set_option maxRecDepth 100000 in
theorem new_any (w : World) (k : Nat) (h1 : 1 ≤ k) (h2 : k ≤ 5000) : Calls Try.prog 28 #[.int .i64 (k : Int)] w fun e w' => ∃ b c, e = .returned (.tuple #[.pointer (some ⟨b, 0, none⟩), .int .i64 0]) ∧ BoxR w.heap.size w' b c k [] ∧ Below w.heap.size w w' := by
  have hm := mk_chan w k h2
  have t1 : ¬ (k : Int) < 1 := by omega
  have t2 : ¬ (5000 : Int) < (k : Int) := by omega
  have HN := Lib.hid (new_box w.heap.size w k (Nat.le_refl _))
  have HB : Hid (Below w.heap.size w ((w.alloc (.chan k #[] false 0 0 false)).alloc (.cells #[.chan (some w.heap.size), .bool false] 83))) := ((Below.refl _ _).alloc (Nat.le_refl _) _).alloc (by simp) _
  go_enter Try.func28, Try.ntmps28
  go_wp2
  go_ret2
  exact ⟨_, rfl, ⟨_, HN.out⟩, HB.out⟩
set_option maxRecDepth 100000 in
theorem new_bad (w : World) (k : Int) (hk : k < 1 ∨ 5000 < k) : Calls Try.prog 28 #[.int .i64 k] w fun e w' => e = .returned (.tuple #[.pointer none, .int .i64 1]) ∧ w = w' := by
  by_cases t1 : k < 1
  · go_enter Try.func28, Try.ntmps28
    go_wp2
    go_ret2
    exact ⟨rfl, rfl⟩
  · have t2 : 5000 < k := by omega
    go_enter Try.func28, Try.ntmps28
    go_wp2
    go_ret2
    exact ⟨rfl, rfl⟩

/-- Behind a Put. -/
theorem box_put {n0 : Nat} {w w2 : World} {b cap : Nat} {l : List V} {c s r : Nat} {q : List (Nat × V)} {x : V} (h0 : q.map Prod.snd = l) (h1 : n0 ≤ b) (h2 : n0 ≤ c) (h3 : w.heap[b]? = some (.cells #[.chan (some c), .bool false] 83 (0, 0)))
    (h4 : w.heap[c]? = some (.chan cap (ptrs q) false s r false)) (h5 : ∀ e ∈ q, n0 ≤ e.1 ∧ w.heap[e.1]? = some (.cells (ec e.2) 65 (0, 0))) (hw : w2 = (w.alloc (.cells (ec x) 65)).setChan c cap ((ptrs q).push (.pointer (some ⟨w.heap.size, 0, none⟩))) false (s + 1) r false) :
    BoxR n0 w2 b c cap (l ++ [x]) ∧ w.grownBy w2 (some c) := by
  subst hw
  have lb := (Array.getElem?_eq_some_iff.1 h3).1
  have lc := (Array.getElem?_eq_some_iff.1 h4).1
  have hbc : c ≠ b := fun e => by rw [e, h3] at h4; simp at h4
  refine ⟨⟨s + 1, r, q ++ [(w.heap.size, x)], by simp [h0], h1, h2, ?_, ?_, ?_⟩, ?_⟩
  · rw [setChan_other _ _ _ _ _ _ _ _ _ hbc]
    exact block_old h3 _
  · rw [heap_setChan _ _ _ _ _ _ _ _ (by simp; omega)]
    simp [ptrs]
  · intro e he
    rcases List.mem_append.1 he with he | he
    · have h6 := h5 e he
      have hce : c ≠ e.1 := fun k => by rw [← k, h4] at h6; simp at h6
      rw [setChan_other _ _ _ _ _ _ _ _ _ hce]
      exact ⟨h6.1, block_old h6.2 _⟩
    · rw [List.mem_singleton.1 he]
      rw [setChan_other _ _ _ _ _ _ _ _ _ (by show c ≠ w.heap.size; omega)]
      exact ⟨by show n0 ≤ w.heap.size; omega, block_new _ _⟩
  · exact grownBy_setChan (grownBy_alloc w _ _) _ _ _ _ _ _

set_option maxRecDepth 100000 in
theorem put_nil (w : World) (x : V) : Calls Try.prog 35 #[.pointer none, ev x] w fun e w' => e = .returned (.int .i64 10) ∧ Below w.heap.size w w' := by
  obtain ⟨xs, xb⟩ := x
  unfold ev
  go_enter Try.func35, Try.ntmps35
  go_wp2
  go_ret
  exact ⟨rfl, (Below.refl _ _).alloc (Nat.le_refl _) _⟩
set_option maxRecDepth 100000 in
theorem put_room (n0 : Nat) (w : World) (b c cap : Nat) (l : List V) (x : V) (h : BoxR n0 w b c cap l) (hr : l.length < cap) : Calls Try.prog 35 #[.pointer (some ⟨b, 0, none⟩), ev x] w fun e w' => e = .returned (.int .i64 0) ∧ BoxR n0 w' b c cap (l ++ [x]) ∧ w.grownBy w' (some c) := by
  obtain ⟨s, r, q, h0, h1, h2, h3, h4, h5⟩ := h
  have lc := (Array.getElem?_eq_some_iff.1 h4).1
  have hc := block_cell2 (block_old h3 (.cells (ec x) 65))
  have hq : q.length = l.length := by rw [← h0]; simp
  have hs := send_room (w.alloc (.cells (ec x) 65)) c cap s r (ptrs q) false (.pointer (some ⟨w.heap.size, 0, none⟩)) (block_old h4 _) (by rw [ptrs_size]; omega)
  have HP := Lib.hid (fun w2 => box_put (w2 := w2) (x := x) h0 h1 h2 h3 h4 h5)
  obtain ⟨⟨c1, c2⟩, _⟩ := hc
  obtain ⟨xs, xb⟩ := x
  unfold ec at hs c1 c2
  unfold ev
  clear hq h0 h1 h2 h3 h4 h5
  go_enter Try.func35, Try.ntmps35
  go_wp2_with (go_at_call 43; refine hs.mono ?_; rintro e w1 ⟨rfl, hw1⟩)
  go_ret
  exact ⟨rfl, HP.out _ rfl⟩
set_option maxRecDepth 100000 in
theorem put_full (n0 : Nat) (w : World) (b c cap : Nat) (l : List V) (x : V) (h : BoxR n0 w b c cap l) (hr : cap ≤ l.length) : Calls Try.prog 35 #[.pointer (some ⟨b, 0, none⟩), ev x] w fun e w' => e = .returned (.int .i64 7) ∧ BoxR n0 w' b c cap l ∧ Below w.heap.size w w' := by
  have HK := Lib.hid (fun o => h.alloc o)
  obtain ⟨s, r, q, h0, h1, h2, h3, h4, h5⟩ := h
  have hc := block_cell2 (block_old h3 (.cells (ec x) 65))
  have hq : q.length = l.length := by rw [← h0]; simp
  have hs := send_full (w.alloc (.cells (ec x) 65)) c cap s r (ptrs q) false (.pointer (some ⟨w.heap.size, 0, none⟩)) (block_old h4 _) (by rw [ptrs_size]; omega)
  obtain ⟨⟨c1, c2⟩, _⟩ := hc
  obtain ⟨xs, xb⟩ := x
  unfold ec at hs c1 c2
  unfold ev
  clear hq h0 h1 h2 h3 h4 h5
  go_enter Try.func35, Try.ntmps35
  go_wp2_with (go_at_call 43; refine hs.mono ?_; rintro e w1 ⟨rfl, rfl⟩)
  go_ret
  exact ⟨rfl, HK.out _, (Below.refl _ _).alloc (Nat.le_refl _) _⟩
set_option maxRecDepth 100000 in
theorem len_nil (w : World) : Calls Try.prog 39 #[.pointer none] w fun e w' => e = .returned (.int .i64 0) ∧ w = w' := by
  go_enter Try.func39, Try.ntmps39
  have hl : (Builtin.len_ #[81] 3 #[.chan none]).run Try.prog w = .ok (.int .i64 0) w := by simp [Builtin.len_, run_underlying Try.underlying81]; rfl
  go_wp2_with (go_at_call 42; refine (chan_nil _).mono ?_; rintro e w1 ⟨rfl, rfl⟩)
  go_ret
  exact ⟨rfl, rfl⟩
theorem grownBy_setCell {w w2 : World} {r : Option Nat} (h : w.grownBy w2 r) {b : Nat} (hb : w.heap.size ≤ b) (j : Nat) (v : Value) : w.grownBy (w2.setCell ⟨b, j, none⟩ v) r :=
  ⟨h.os, h.tape, h.output, by rw [World.size_setCell]; exact h.size, fun k hk hn => (Deep.blk_setCell_other w2 ⟨b, j, none⟩ v k (by show k ≠ b; omega)).trans (h.block k hk hn)⟩
/-- A box whose channel alone was changed. -/
theorem box_of {n0 : Nat} {w w2 : World} {b cap : Nat} {c s r : Nat} {l : List V} {q q' : List (Nat × V)} {buf : Array Value} {s' r' : Nat} (h1 : n0 ≤ b) (h2 : n0 ≤ c) (h3 : w.heap[b]? = some (.cells #[.chan (some c), .bool false] 83 (0, 0)))
    (h4 : w.heap[c]? = some (.chan cap buf false s r false)) (h5 : ∀ e ∈ q, n0 ≤ e.1 ∧ w.heap[e.1]? = some (.cells (ec e.2) 65 (0, 0))) (hg : w.grownBy w2 (some c)) (hc : w2.heap[c]? = some (.chan cap (ptrs q') false s' r' false)) (hq : ∀ e ∈ q', e ∈ q) (hl : q'.map Prod.snd = l) : BoxR n0 w2 b c cap l := by
  refine ⟨s', r', q', hl, h1, h2, block_grown h3 hg (fun e => by rw [e, h4] at h3; simp at h3), hc, fun e he => ⟨(h5 e (hq e he)).1, block_grown (h5 e (hq e he)).2 hg (fun k => ?_)⟩⟩
  have := (h5 e (hq e he)).2
  rw [k, h4] at this
  simp at this
theorem ptrs_tail (e : Nat × V) (q : List (Nat × V)) : (ptrs (e :: q)).extract 1 (ptrs (e :: q)).size = ptrs q := by
  unfold ptrs
  simp only [List.map_cons, List.size_toArray, List.length_cons, List.length_map, List.extract_toArray, List.extract_eq_take_drop, List.drop_succ_cons, List.drop_zero, Nat.add_sub_cancel]
  rw [List.take_of_length_le (by simp)]
set_option maxRecDepth 100000 in
theorem take_some (n0 : Nat) (w : World) (b c cap : Nat) (x : V) (l : List V) (h : BoxR n0 w b c cap (x :: l)) : Calls Try.prog 33 #[.pointer (some ⟨b, 0, none⟩)] w fun e w' => e = .returned (.tuple #[ev x, .int .i64 0]) ∧ BoxR n0 w' b c cap l ∧ w.grownBy w' (some c) := by
  obtain ⟨s, r, q, h0, h1, h2, h3, h4, h5⟩ := h
  obtain _ | ⟨⟨g, y⟩, q⟩ := q
  · simp at h0
  simp only [List.map_cons, List.cons.injEq] at h0
  obtain ⟨rfl, rfl⟩ := h0
  have lc := (Array.getElem?_eq_some_iff.1 h4).1
  have lg := (Array.getElem?_eq_some_iff.1 (h5 _ (List.mem_cons_self ..)).2).1
  have hr := recv_some (w.alloc (.cells #[.string ByteArray.empty, .bool false] 65)) c cap s r (ptrs ((g, y) :: q)) false false (block_old h4 _) (by simp [ptrs]) (.pointer (some ⟨g, 0, none⟩)) (by simp [ptrs])
  rw [ptrs_tail] at hr
  have H3 : Hid ((w.alloc (.cells #[.string ByteArray.empty, .bool false] 65)).heap[b]? = some (.cells #[.chan (some c), .bool false] 83 (0, 0))) := block_old h3 _
  obtain ⟨W2, hW2⟩ : ∃ W2, W2 = (w.alloc (.cells #[.string ByteArray.empty, .bool false] 65)).setChan c cap (ptrs q) false s (r + 1) false := ⟨_, rfl⟩
  have G : Hid (w.grownBy W2 (some c)) := by rw [hW2]; exact grownBy_setChan (grownBy_alloc w _ _) _ _ _ _ _ _
  have hC : W2.heap[c]? = some (.chan cap (ptrs q) false s (r + 1) false) := by rw [hW2]; exact heap_setChan _ _ _ _ _ _ _ _ (by simp; omega)
  have hZ : W2.heap[w.heap.size]? = some (.cells #[.string ByteArray.empty, .bool false] 65 (0, 0)) := by
    rw [hW2, setChan_other _ _ _ _ _ _ _ _ _ (by omega)]; exact block_new w _
  have hE : W2.heap[g]? = some (.cells (ec y) 65 (0, 0)) := block_grown (h5 _ (List.mem_cons_self ..)).2 G.out (fun k => by
    have := (h5 _ (List.mem_cons_self ..)).2
    have e2 : (g, y).1 = c := k
    rw [e2, h4] at this; simp at this)
  rw [← hW2] at hr
  clear hW2
  have HB : Hid (∀ W3, w.grownBy W3 (some c) → W3.heap[c]? = some (.chan cap (ptrs q) false s (r + 1) false) → BoxR n0 W3 b c cap (q.map Prod.snd)) := fun W3 hg hc => box_of h1 h2 h3 h4 h5 hg hc (fun e he => List.mem_cons_of_mem _ he) rfl
  obtain ⟨y1, y2⟩ := y
  obtain ⟨⟨e0, e1⟩, _⟩ := block_cell2 hE
  obtain ⟨⟨z0, z1⟩, f0, f1⟩ := block_cell2 hZ
  have HC := Lib.hid hC
  have hgne : w.heap.size ≠ g := by omega
  have hgne2 : w.heap.size ≠ c := by omega
  have LC := Lib.hid hgne2
  clear h1 h2 h3 h4 h5 hE hZ hC lc lg hgne2
  unfold ev
  go_enter Try.func33, Try.ntmps33
  go_wp2_with (first
    | (go_at_call 42; refine (chan_any _ _ _ _ H3.out).mono ?_; rintro e w1 ⟨rfl, rfl⟩)
    | (go_at_call 41; refine hr.mono ?_; rintro e w1 ⟨rfl, rfl⟩))
  refine bodyPost_ret (v := .tuple #[.agg #[.string y1, .bool y2], .int .i64 0]) (by simp [results, Try.results33, go_sem, z0, z1]) rfl ⟨rfl, ?_, ?_⟩
  · exact HB.out _ (grownBy_setCell (grownBy_setCell G.out (Nat.le_refl _) _ _) (Nat.le_refl _) _ _) (by
      rw [Deep.blk_setCell_other _ _ _ _ (by exact LC.out.symm), Deep.blk_setCell_other _ _ _ _ (by exact LC.out.symm)]; exact HC.out)
  · exact grownBy_setCell (grownBy_setCell G.out (Nat.le_refl _) _ _) (Nat.le_refl _) _ _
end Go.Proofs.Ytnekjbdogdghnaa.Ne
