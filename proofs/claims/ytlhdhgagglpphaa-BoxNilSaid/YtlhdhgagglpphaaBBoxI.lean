/-
  A box in memory; the contracts of New, Put, Len, Room. Conditions: the box is open.
-/
import Derived.Test.YtlhdhgagglpphaaBChanI
import Derived.Conc.LoneSelectN
namespace Go.Proofs.Ytlhdhgagglpphaa.Bx.I
open Go.RowKit Go.Conc

abbrev V := Int
def ev (x : V) : Value := Value.int .i64 x
def zv : V := (0 : Int)
def ptrs (q : List (Nat × V)) : Array Value := (q.map fun e => Value.pointer (some ⟨e.1, 0, none⟩)).toArray
/-- The box b with room for cap holds l; all its blocks lie from n0 on. -/
def BoxR (n0 : Nat) (w : World) (b c cap : Nat) (l : List V) : Prop :=
  ∃ s r, ∃ q : List (Nat × V), q.map Prod.snd = l ∧ n0 ≤ b ∧ n0 ≤ c ∧ w.heap[b]? = some (.cells #[.chan (some c), .bool false] 54 (0, 0)) ∧ w.heap[c]? = some (.chan cap (ptrs q) false s r false) ∧
    ∀ e ∈ q, n0 ≤ e.1 ∧ w.heap[e.1]? = some (.cells #[ev e.2] 3 (0, 0))
theorem ptrs_size (q : List (Nat × V)) : (ptrs q).size = q.length := by simp [ptrs]
theorem BoxR.lt {n0 : Nat} {w : World} {b c cap : Nat} {l : List V} (h : BoxR n0 w b c cap l) : (n0 ≤ b ∧ b < w.heap.size) ∧ n0 ≤ c ∧ c < w.heap.size := by
  obtain ⟨s, r, q, _, h1, h3, h2, h4, _⟩ := h
  exact ⟨⟨h1, (Array.getElem?_eq_some_iff.1 h2).1⟩, h3, (Array.getElem?_eq_some_iff.1 h4).1⟩
theorem BoxR.kept {n0 : Nat} {w w' : World} {b c cap : Nat} {l : List V} (h : BoxR n0 w b c cap l) (hb : Below w.heap.size w w') : BoxR n0 w' b c cap l := by
  obtain ⟨s, r, q, h0, h1, h2, h3, h4, h5⟩ := h
  exact ⟨s, r, q, h0, h1, h2, block_kept h3 hb, block_kept h4 hb, fun e he => ⟨(h5 e he).1, block_kept (h5 e he).2 hb⟩⟩
theorem BoxR.alloc {n0 : Nat} {w : World} {b c cap : Nat} {l : List V} (h : BoxR n0 w b c cap l) (o : Obj) : BoxR n0 (w.alloc o) b c cap l := h.kept ((Below.refl _ _).alloc (Nat.le_refl _) _)

set_option maxRecDepth 100000 in
theorem chan_nil (w : World) : Calls Try.prog 26 #[.pointer none] w fun e w' => e = .returned (.chan none) ∧ w = w' := by
  go_enter Try.func26, Try.ntmps26
  go_wp2
  go_ret
  exact ⟨rfl, rfl⟩
set_option maxRecDepth 100000 in
theorem chan_any (w : World) (b c : Nat) (sh : Value) (h : w.heap[b]? = some (.cells #[.chan (some c), sh] 54 (0, 0))) : Calls Try.prog 26 #[.pointer (some ⟨b, 0, none⟩)] w fun e w' => e = .returned (.chan (some c)) ∧ w = w' := by
  have h1 := (block_cell2 h).1.1
  go_enter Try.func26, Try.ntmps26
  go_wp2
  go_ret
  exact ⟨rfl, rfl⟩


set_option maxRecDepth 100000 in
theorem len_any (n0 : Nat) (w : World) (b c cap : Nat) (l : List V) (h : BoxR n0 w b c cap l) : Calls Try.prog 14 #[.pointer (some ⟨b, 0, none⟩)] w fun e w' => e = .returned (.int .i64 (l.length : Int)) ∧ w = w' := by
  obtain ⟨s, r, q, h0, h1, h2, h3, h4, h5⟩ := h
  have hl := run_len_chan (P := Try.prog) (w := w) 52 3 Try.underlying52 h4
  have e1 : ((ptrs q).size : Int) = (l.length : Int) := by rw [ptrs_size, ← h0]; simp
  rw [e1] at hl
  go_enter Try.func14, Try.ntmps14
  go_wp2_with (go_at_call 26; refine (chan_any _ _ _ _ h3).mono ?_; rintro e w1 ⟨rfl, rfl⟩)
  go_ret
  exact ⟨rfl, rfl⟩
set_option maxRecDepth 100000 in
theorem room_any (n0 : Nat) (w : World) (b c cap : Nat) (l : List V) (h : BoxR n0 w b c cap l) : Calls Try.prog 17 #[.pointer (some ⟨b, 0, none⟩)] w fun e w' => e = .returned (.int .i64 (cap : Int)) ∧ w = w' := by
  obtain ⟨s, r, q, h0, h1, h2, h3, h4, h5⟩ := h
  have hl := run_cap_chan (P := Try.prog) (w := w) 52 3 Try.underlying52 h4
  go_enter Try.func17, Try.ntmps17
  go_wp2_with (go_at_call 26; refine (chan_any _ _ _ _ h3).mono ?_; rintro e w1 ⟨rfl, rfl⟩)
  go_ret
  exact ⟨rfl, rfl⟩

theorem elInfo : ∃ i, Try.prog.info? 56 = some i ∧ i.bytes = 8 := by
  have h : (Try.prog.info? 56).map (·.bytes) = some 8 := by kernel_rfl
  obtain ⟨i, hi, hb⟩ := Option.map_eq_some_iff.1 h
  exact ⟨i, hi, hb⟩
theorem mk_chan (w : World) (k : Nat) (hk : k ≤ 5000) : (Instr.makeChan 52 (.int .i64 (k : Int))).run Try.prog w = .ok (.chan (some w.heap.size)) (w.alloc (.chan k #[] false 0 0 false)) := by
  obtain ⟨i, hi, hb⟩ := elInfo
  simpa using run_makeChan (P := Try.prog) (w := w) Try.underlying52 hi .i64 k (by omega) (by rw [hb]; omega)

/-- A new box. -/
theorem new_box (n0 : Nat) (w : World) (cap : Nat) (hn : n0 ≤ w.heap.size) : BoxR n0 ((w.alloc (.chan cap #[] false 0 0 false)).alloc (.cells #[.chan (some w.heap.size), .bool false] 54)) (w.heap.size + 1) w.heap.size cap [] := by
  refine ⟨0, 0, [], rfl, by omega, hn, ?_, ?_, fun e he => absurd he (List.not_mem_nil)⟩
  · have := block_new (w.alloc (.chan cap #[] false 0 0 false)) (.cells #[.chan (some w.heap.size), .bool false] 54)
    simpa using this
  · exact block_old (block_new _ _) _
set_option maxRecDepth 100000 in
theorem new_any (w : World) (k : Nat) (h1 : 1 ≤ k) (h2 : k ≤ 5000) : Calls Try.prog 11 #[.int .i64 (k : Int)] w fun e w' => ∃ b c, e = .returned (.tuple #[.pointer (some ⟨b, 0, none⟩), .int .i64 0]) ∧ BoxR w.heap.size w' b c k [] ∧ Below w.heap.size w w' := by
  have hm := mk_chan w k h2
  have t1 : ¬ (k : Int) < 1 := by omega
  have t2 : ¬ (5000 : Int) < (k : Int) := by omega
  have HN := Lib.hid (new_box w.heap.size w k (Nat.le_refl _))
  have HB : Hid (Below w.heap.size w ((w.alloc (.chan k #[] false 0 0 false)).alloc (.cells #[.chan (some w.heap.size), .bool false] 54))) := ((Below.refl _ _).alloc (Nat.le_refl _) _).alloc (by simp) _
  go_enter Try.func11, Try.ntmps11
  go_wp2
  go_ret2
  exact ⟨_, rfl, ⟨_, HN.out⟩, HB.out⟩
set_option maxRecDepth 100000 in
theorem new_bad (w : World) (k : Int) (hk : k < 1 ∨ 5000 < k) : Calls Try.prog 11 #[.int .i64 k] w fun e w' => e = .returned (.tuple #[.pointer none, .int .i64 1]) ∧ w = w' := by
  by_cases t1 : k < 1
  · go_enter Try.func11, Try.ntmps11
    go_wp2
    go_ret2
    exact ⟨rfl, rfl⟩
  · have t2 : 5000 < k := by omega
    go_enter Try.func11, Try.ntmps11
    go_wp2
    go_ret2
    exact ⟨rfl, rfl⟩

/-- Behind a Put. -/
theorem box_put {n0 : Nat} {w w2 : World} {b cap : Nat} {l : List V} {c s r : Nat} {q : List (Nat × V)} {x : V} (h0 : q.map Prod.snd = l) (h1 : n0 ≤ b) (h2 : n0 ≤ c) (h3 : w.heap[b]? = some (.cells #[.chan (some c), .bool false] 54 (0, 0)))
    (h4 : w.heap[c]? = some (.chan cap (ptrs q) false s r false)) (h5 : ∀ e ∈ q, n0 ≤ e.1 ∧ w.heap[e.1]? = some (.cells #[ev e.2] 3 (0, 0))) (hw : w2 = (w.alloc (.cells #[ev x] 3)).setChan c cap ((ptrs q).push (.pointer (some ⟨w.heap.size, 0, none⟩))) false (s + 1) r false) :
    BoxR n0 w2 b c cap (l ++ [x]) ∧ w.grownBy w2 (some c) := by
  subst hw
  have lb := (Array.getElem?_eq_some_iff.1 h3).1
  have lc := (Array.getElem?_eq_some_iff.1 h4).1
  have hbc : c ≠ b := fun e => by rw [e, h3] at h4; simp at h4
  refine ⟨⟨s + 1, r, q ++ [(w.heap.size, x)], by simp [h0], h1, h2, ?_, ?_, ?_⟩, ?_⟩
  · rw [setChan_other _ _ _ _ _ _ _ _ _ hbc]
    exact block_old h3 _
  · rw [heap_setChan _ _ _ _ _ _ _ _ (by simp; omega)]
    simp [ptrs]
  · intro e he
    rcases List.mem_append.1 he with he | he
    · have h6 := h5 e he
      have hce : c ≠ e.1 := fun k => by rw [← k, h4] at h6; simp at h6
      rw [setChan_other _ _ _ _ _ _ _ _ _ hce]
      exact ⟨h6.1, block_old h6.2 _⟩
    · rw [List.mem_singleton.1 he]
      rw [setChan_other _ _ _ _ _ _ _ _ _ (by show c ≠ w.heap.size; omega)]
      exact ⟨by show n0 ≤ w.heap.size; omega, block_new _ _⟩
  · exact grownBy_setChan (grownBy_alloc w _ _) _ _ _ _ _ _

set_option maxRecDepth 100000 in
theorem put_nil (w : World) (x : V) : Calls Try.prog 12 #[.pointer none, ev x] w fun e w' => e = .returned (.int .i64 10) ∧ Below w.heap.size w w' := by
  unfold ev
  go_enter Try.func12, Try.ntmps12
  go_wp2
  go_ret
  exact ⟨rfl, (Below.refl _ _).alloc (Nat.le_refl _) _⟩
set_option maxRecDepth 100000 in
theorem put_room (n0 : Nat) (w : World) (b c cap : Nat) (l : List V) (x : V) (h : BoxR n0 w b c cap l) (hr : l.length < cap) : Calls Try.prog 12 #[.pointer (some ⟨b, 0, none⟩), ev x] w fun e w' => e = .returned (.int .i64 0) ∧ BoxR n0 w' b c cap (l ++ [x]) ∧ w.grownBy w' (some c) := by
  obtain ⟨s, r, q, h0, h1, h2, h3, h4, h5⟩ := h
  have lc := (Array.getElem?_eq_some_iff.1 h4).1
  have hc := block_cell2 (block_old h3 (.cells #[ev x] 3))
  have hq : q.length = l.length := by rw [← h0]; simp
  have hs := send_room (w.alloc (.cells #[ev x] 3)) c cap s r (ptrs q) false (.pointer (some ⟨w.heap.size, 0, none⟩)) (block_old h4 _) (by rw [ptrs_size]; omega)
  have HP := Lib.hid (fun w2 => box_put (w2 := w2) (x := x) h0 h1 h2 h3 h4 h5)
  obtain ⟨⟨c1, c2⟩, _⟩ := hc
  unfold ev at hs c1 c2 ⊢
  clear hq h0 h1 h2 h3 h4 h5
  go_enter Try.func12, Try.ntmps12
  go_wp2_with (go_at_call 24; refine hs.mono ?_; rintro e w1 ⟨rfl, hw1⟩)
  go_ret
  exact ⟨rfl, HP.out _ rfl⟩
set_option maxRecDepth 100000 in
theorem put_full (n0 : Nat) (w : World) (b c cap : Nat) (l : List V) (x : V) (h : BoxR n0 w b c cap l) (hr : cap ≤ l.length) : Calls Try.prog 12 #[.pointer (some ⟨b, 0, none⟩), ev x] w fun e w' => e = .returned (.int .i64 7) ∧ BoxR n0 w' b c cap l ∧ Below w.heap.size w w' := by
  have HK := Lib.hid (fun o => h.alloc o)
  obtain ⟨s, r, q, h0, h1, h2, h3, h4, h5⟩ := h
  have hc := block_cell2 (block_old h3 (.cells #[ev x] 3))
  have hq : q.length = l.length := by rw [← h0]; simp
  have hs := send_full (w.alloc (.cells #[ev x] 3)) c cap s r (ptrs q) false (.pointer (some ⟨w.heap.size, 0, none⟩)) (block_old h4 _) (by rw [ptrs_size]; omega)
  obtain ⟨⟨c1, c2⟩, _⟩ := hc
  unfold ev at hs c1 c2 ⊢
  clear hq h0 h1 h2 h3 h4 h5
  go_enter Try.func12, Try.ntmps12
  go_wp2_with (go_at_call 24; refine hs.mono ?_; rintro e w1 ⟨rfl, rfl⟩)
  go_ret
  exact ⟨rfl, HK.out _, (Below.refl _ _).alloc (Nat.le_refl _) _⟩
end Go.Proofs.Ytlhdhgagglpphaa.Bx.I
