/-
  The contracts of has, way, busy and Len. Conditions: those of the network.
-/
import Derived.Test.YtnekjbdogdghnaaNNet
namespace Go.Proofs.Ytnekjbdogdghnaa.Ne
open Go.RowKit Go.Conc Bx

theorem fld (a : Option Addr) (W : World) : (Instr.field 67 (.agg #[.pointer a]) 0).run Try.prog W = .ok (.pointer a) W := by
  have h : ∀ W, (Sem.run Try.prog (part 61 #[.pointer a] 0) W) = .ok (.pointer a) W := fun W => by
    simp [part, isAgg, run_underlying Try.underlying61]
  unfold Instr.field
  simp [run_underlying Try.underlying67, h, asAgg]
section
variable {n0 p R g cp : Nat} {w w' : World} {ls : List (List V)} {lost : Int} {arr : Array Value} {bs : List (Nat × Nat)}
theorem NetB.c0 (h : NetB n0 w p R ls lost g cp arr bs) : w.cell? ⟨p, 0, none⟩ = some (.slice (some ⟨g, 0, none⟩) ls.length cp) := (block_cell2 h.2.2.1).1.1
theorem NetB.c1 (h : NetB n0 w p R ls lost g cp arr bs) : w.cell? ⟨p, 1, none⟩ = some (.int .i64 lost) := (block_cell2 h.2.2.1).1.2
theorem NetB.f1 (h : NetB n0 w p R ls lost g cp arr bs) : w.frozen? ⟨p, 1, none⟩ = false := (block_cell2 h.2.2.1).2.2
theorem NetB.cw (h : NetB n0 w p R ls lost g cp arr bs) {i : Nat} {b : Nat × Nat} (hb : bs[i]? = some b) : w.cell? ⟨g, i, none⟩ = some (.pointer (some ⟨b.1, 0, none⟩)) := by
  have h1 := h.2.2.2.1
  have h2 := h.2.2.2.2.2.1 i b hb
  simp [World.cell?, h1, h2]
theorem NetB.at_ (h : NetB n0 w p R ls lost g cp arr bs) {i : Nat} {l : List V} (hl : ls[i]? = some l) : ∃ b, bs[i]? = some b ∧ BoxR n0 w b.1 b.2 R l ∧ l.length ≤ R := by
  have hi : i < bs.length := by rw [h.1]; exact (List.getElem?_eq_some_iff.1 hl).1
  refine ⟨bs[i], List.getElem?_eq_getElem hi, h.2.2.2.2.2.2.1 i _ l (List.getElem?_eq_getElem hi) hl⟩
theorem NetB.le (h : NetB n0 w p R ls lost g cp arr bs) : R ≤ 1000 ∧ ls.length ≤ 3 ∧ ls.length ≤ cp := h.2.2.2.2.1
/-- The way to that CCP. -/
def wayF (ls : List (List V)) (d : Int) : Option (List V) := if 0 ≤ d then ls[d.toNat]? else none
theorem wayF_some {ls : List (List V)} {d : Int} {l : List V} (h : wayF ls d = some l) : ∃ i : Nat, d = (i : Int) ∧ ls[i]? = some l ∧ i < ls.length := by
  unfold wayF at h
  split at h
  · exact ⟨d.toNat, by omega, h, (List.getElem?_eq_some_iff.1 h).1⟩
  · cases h
theorem wayF_none {ls : List (List V)} {d : Int} (h : wayF ls d = none) : d < 0 ∨ (0 ≤ d ∧ (ls.length : Int) ≤ d) := by
  unfold wayF at h
  split at h
  · rw [List.getElem?_eq_none_iff] at h; omega
  · omega
set_option maxRecDepth 100000 in
theorem has_nil (w : World) (d : Int) : Calls Try.prog 40 #[.pointer none, .int .i64 d] w fun e w' => e = .returned (.bool false) ∧ w = w' := by
  go_enter Try.func40, Try.ntmps40
  go_wp2
  go_ret
  exact ⟨rfl, rfl⟩
set_option maxRecDepth 100000 in
theorem has_no (h : NetB n0 w p R ls lost g cp arr bs) {d : Int} (ht : wayF ls d = none) : Calls Try.prog 40 #[.pointer (some ⟨p, 0, none⟩), .int .i64 d] w fun e w' => e = .returned (.bool false) ∧ w = w' := by
  have c0 := h.c0
  clear h
  rcases wayF_none ht with t1 | ⟨t1, t2⟩
  · have t2 : ¬ (0 : Int) ≤ d := by omega
    clear ht
    go_enter Try.func40, Try.ntmps40
    go_wp2
    go_ret
    exact ⟨rfl, rfl⟩
  · have t3 : ¬ d < (ls.length : Int) := by omega
    clear ht
    go_enter Try.func40, Try.ntmps40
    go_wp2
    go_ret
    exact ⟨rfl, rfl⟩
set_option maxRecDepth 100000 in
theorem has_yes (h : NetB n0 w p R ls lost g cp arr bs) {i : Nat} (hi : i < ls.length) : Calls Try.prog 40 #[.pointer (some ⟨p, 0, none⟩), .int .i64 (i : Int)] w fun e w' => e = .returned (.bool true) ∧ w = w' := by
  have c0 := h.c0
  clear h
  have t1 : (0 : Int) ≤ (i : Int) := by omega
  have t3 : (i : Int) < (ls.length : Int) := by omega
  go_enter Try.func40, Try.ntmps40
  go_wp2
  go_ret
  exact ⟨rfl, rfl⟩
set_option maxRecDepth 100000 in
theorem way_nil (w : World) (d : Int) : Calls Try.prog 29 #[.pointer none, .int .i64 d] w fun e w' => e = .returned (.agg #[.pointer none]) ∧ Below w.heap.size w w' := by
  go_enter Try.func29, Try.ntmps29
  go_wp2_with (go_at_call 40; refine (has_nil _ _).mono ?_; rintro e w1 ⟨rfl, rfl⟩)
  refine bodyPost_ret (v := .agg #[.pointer none]) (by simp [results, Try.results29, go_sem]) rfl ⟨rfl, ?_⟩
  exact (Below.refl _ _).alloc (Nat.le_refl _) _
set_option maxRecDepth 100000 in
theorem way_no (h : NetB n0 w p R ls lost g cp arr bs) {d : Int} (ht : wayF ls d = none) : Calls Try.prog 29 #[.pointer (some ⟨p, 0, none⟩), .int .i64 d] w fun e w' => e = .returned (.agg #[.pointer none]) ∧ Below w.heap.size w w' := by
  have hb : Below w.heap.size w (w.alloc (.cells #[.pointer none] 67)) := (Below.refl _ _).alloc (Nat.le_refl _) _
  have H := Lib.hid (has_no (h.below hb) ht)
  clear h
  go_enter Try.func29, Try.ntmps29
  go_wp2_with (go_at_call 40; refine H.out.mono ?_; rintro e w1 ⟨rfl, rfl⟩)
  refine bodyPost_ret (v := .agg #[.pointer none]) (by simp [results, Try.results29, go_sem]) rfl ⟨rfl, ?_⟩
  exact hb
set_option maxRecDepth 100000 in
theorem way_yes (h : NetB n0 w p R ls lost g cp arr bs) {i : Nat} {b : Nat × Nat} (hb : bs[i]? = some b) : Calls Try.prog 29 #[.pointer (some ⟨p, 0, none⟩), .int .i64 (i : Int)] w fun e w' => e = .returned (.agg #[.pointer (some ⟨b.1, 0, none⟩)]) ∧ Below w.heap.size w w' := by
  have hb0 : Below w.heap.size w (w.alloc (.cells #[.pointer none] 67)) := (Below.refl _ _).alloc (Nat.le_refl _) _
  have hi : i < ls.length := by rw [← h.1]; exact (List.getElem?_eq_some_iff.1 hb).1
  have H := Lib.hid (has_yes (h.below hb0) hi)
  have c0 := (h.below hb0).c0
  have c1 := (h.below hb0).cw hb
  have HB := Lib.hid hb0
  obtain ⟨b1, b2⟩ := b
  clear h hb hb0
  have t1 : (0 : Int) ≤ (i : Int) := by omega
  have t3 : (i : Int) < (ls.length : Int) := by omega
  go_enter Try.func29, Try.ntmps29
  go_wp2_with (go_at_call 40; refine H.out.mono ?_; rintro e w1 ⟨rfl, rfl⟩)
  refine bodyPost_ret (v := .agg #[.pointer (some ⟨b1, 0, none⟩)]) (by simp [results, Try.results29, go_sem]) rfl ⟨rfl, ?_⟩
  exact (Below.refl _ _).alloc (Nat.le_refl _) _
set_option maxRecDepth 100000 in
theorem nLen_nil (w : World) (d : Int) : Calls Try.prog 26 #[.pointer none, .int .i64 d] w fun e w' => e = .returned (.int .i64 0) ∧ Below w.heap.size w w' := by
  have hf := fun (W : World) => fld none W
  go_enter Try.func26, Try.ntmps26
  go_wp2_with (first
    | (go_at_call 29; refine (way_nil _ _).mono ?_; rintro e w1 ⟨rfl, k1⟩)
    | (go_at_call 39; refine (len_nil _).mono ?_; rintro e w2 ⟨rfl, rfl⟩))
  go_ret
  exact ⟨rfl, k1⟩
set_option maxRecDepth 100000 in
theorem nLen_no (h : NetB n0 w p R ls lost g cp arr bs) {d : Int} (ht : wayF ls d = none) : Calls Try.prog 26 #[.pointer (some ⟨p, 0, none⟩), .int .i64 d] w fun e w' => e = .returned (.int .i64 0) ∧ Below w.heap.size w w' := by
  have H := Lib.hid (way_no h ht)
  clear h
  have hf := fun (W : World) => fld none W
  go_enter Try.func26, Try.ntmps26
  go_wp2_with (first
    | (go_at_call 29; refine H.out.mono ?_; rintro e w1 ⟨rfl, k1⟩)
    | (go_at_call 39; refine (len_nil _).mono ?_; rintro e w2 ⟨rfl, rfl⟩))
  go_ret
  exact ⟨rfl, k1⟩
set_option maxRecDepth 100000 in
theorem nLen_yes (h : NetB n0 w p R ls lost g cp arr bs) {i : Nat} {l : List V} (hl : ls[i]? = some l) : Calls Try.prog 26 #[.pointer (some ⟨p, 0, none⟩), .int .i64 (i : Int)] w fun e w' => e = .returned (.int .i64 (l.length : Int)) ∧ Below w.heap.size w w' := by
  obtain ⟨b, hb, hx, hr⟩ := h.at_ hl
  have H := Lib.hid (way_yes h hb)
  have HL : Hid (∀ W, Below w.heap.size w W → Calls Try.prog 39 #[.pointer (some ⟨b.1, 0, none⟩)] W fun e w' => e = .returned (.int .i64 (l.length : Int)) ∧ W = w') := fun W hW => len_any n0 W b.1 b.2 R l (hx.kept hW)
  obtain ⟨n, hn⟩ : ∃ n, n = l.length := ⟨_, rfl⟩
  rw [← hn] at HL ⊢
  obtain ⟨b1, b2⟩ := b
  clear h hb hx hl hr hn
  have hf := fun (W : World) => fld (some ⟨b1, 0, none⟩) W
  go_enter Try.func26, Try.ntmps26
  go_wp2_with (first
    | (go_at_call 29; refine H.out.mono ?_; rintro e w1 ⟨rfl, k1⟩; have K1 := Lib.hid k1; clear k1)
    | (go_at_call 39; refine (HL.out _ K1.out).mono ?_; rintro e w2 ⟨rfl, rfl⟩))
  go_ret
  exact ⟨rfl, K1.out⟩
set_option maxRecDepth 100000 in
theorem busy_nil (w : World) (d : Int) : Calls Try.prog 32 #[.pointer none, .int .i64 d] w fun e w' => e = .returned (.tuple #[.agg #[.pointer none], .int .i64 5]) ∧ Below w.heap.size w w' := by
  go_enter Try.func32, Try.ntmps32
  go_wp2_with (go_at_call 40; refine (has_nil _ _).mono ?_; rintro e w1 ⟨rfl, rfl⟩)
  refine bodyPost_ret (v := .tuple #[.agg #[.pointer none], .int .i64 5]) (by simp [results, Try.results32, go_sem]) rfl ⟨rfl, ?_⟩
  exact (Below.refl _ _).alloc (Nat.le_refl _) _
set_option maxRecDepth 100000 in
theorem busy_no (h : NetB n0 w p R ls lost g cp arr bs) {d : Int} (ht : wayF ls d = none) : Calls Try.prog 32 #[.pointer (some ⟨p, 0, none⟩), .int .i64 d] w fun e w' => e = .returned (.tuple #[.agg #[.pointer none], .int .i64 5]) ∧ Below w.heap.size w w' := by
  have hb : Below w.heap.size w (w.alloc (.cells #[.pointer none] 67)) := (Below.refl _ _).alloc (Nat.le_refl _) _
  have H := Lib.hid (has_no (h.below hb) ht)
  clear h
  go_enter Try.func32, Try.ntmps32
  go_wp2_with (go_at_call 40; refine H.out.mono ?_; rintro e w1 ⟨rfl, rfl⟩)
  refine bodyPost_ret (v := .tuple #[.agg #[.pointer none], .int .i64 5]) (by simp [results, Try.results32, go_sem]) rfl ⟨rfl, ?_⟩
  exact hb
set_option maxRecDepth 100000 in
theorem busy_yes (h : NetB n0 w p R ls lost g cp arr bs) {i : Nat} {b : Nat × Nat} {l : List V} (hb : bs[i]? = some b) (hl : ls[i]? = some l) : Calls Try.prog 32 #[.pointer (some ⟨p, 0, none⟩), .int .i64 (i : Int)] w fun e w' => e = .returned (.tuple #[.agg #[.pointer (if l = [] then none else some ⟨b.1, 0, none⟩)], .int .i64 (if l = [] then 13 else 0)]) ∧ Below w.heap.size w w' := by
  have hb0 : Below w.heap.size w (w.alloc (.cells #[.pointer none] 67)) := (Below.refl _ _).alloc (Nat.le_refl _) _
  have h0 := h.below hb0
  have hi : i < ls.length := (List.getElem?_eq_some_iff.1 hl).1
  have H := Lib.hid (has_yes h0 hi)
  have HW := Lib.hid (way_yes h0 hb)
  have HL : Hid (∀ W, Below w.heap.size w W → Calls Try.prog 39 #[.pointer (some ⟨b.1, 0, none⟩)] W fun e w' => e = .returned (.int .i64 (l.length : Int)) ∧ W = w') := fun W hW => len_any n0 W b.1 b.2 R l ((h.2.2.2.2.2.2.1 i b l hb hl).1.kept hW)
  have HB := Lib.hid hb0
  have HZ : Hid (∀ W, Below (w.alloc (.cells #[.pointer none] 67)).heap.size (w.alloc (.cells #[.pointer none] 67)) W → W.heap[w.heap.size]? = some (.cells #[.pointer none] 67 (0, 0))) := fun W hW => block_kept (block_new w _) hW
  obtain ⟨b1, b2⟩ := b
  clear h hb hb0 h0 hl
  rcases l with _ | ⟨x, l⟩
  · simp only [List.length_nil] at HL
    rw [if_pos rfl, if_pos rfl]
    go_enter Try.func32, Try.ntmps32
    go_wp2_with (first
      | (go_at_call 40; refine H.out.mono ?_; rintro e w1 ⟨rfl, rfl⟩)
      | (go_at_call 29; refine HW.out.mono ?_; rintro e w1 ⟨rfl, k1⟩; have K1 := Lib.hid k1; clear k1; have z0 := fun o => (block_cell (block_old (HZ.out _ K1.out) o)).1; have f0 := fun o => (block_cell (block_old (HZ.out _ K1.out) o)).2; have K2 : Hid (Below w.heap.size w w1) := HB.out.trans (K1.out.mono HB.out.size))
      | (go_at_call 39; refine (HL.out _ (K2.out.alloc K2.out.size _)).mono ?_; rintro e w2 ⟨rfl, rfl⟩))
    refine bodyPost_ret (v := .tuple #[.agg #[.pointer none], .int .i64 13]) (by simp [results, Try.results32, go_sem, z0]) rfl ⟨rfl, ?_⟩
    exact (K2.out.alloc K2.out.size _).setCell (Nat.le_refl _) _
  · have t1 : ¬ (((x :: l).length : Nat) : Int) = 0 := by simp; omega
    rw [if_neg (by simp), if_neg (by simp)]
    obtain ⟨n, hn⟩ : ∃ n, n = (x :: l).length := ⟨_, rfl⟩
    rw [← hn] at HL t1
    clear hn
    go_enter Try.func32, Try.ntmps32
    go_wp2_with (first
      | (go_at_call 40; refine H.out.mono ?_; rintro e w1 ⟨rfl, rfl⟩)
      | (go_at_call 29; refine HW.out.mono ?_; rintro e w1 ⟨rfl, k1⟩; have K1 := Lib.hid k1; clear k1; have z0 := fun o => (block_cell (block_old (HZ.out _ K1.out) o)).1; have f0 := fun o => (block_cell (block_old (HZ.out _ K1.out) o)).2; have K2 : Hid (Below w.heap.size w w1) := HB.out.trans (K1.out.mono HB.out.size))
      | (go_at_call 39; refine (HL.out _ (K2.out.alloc K2.out.size _)).mono ?_; rintro e w2 ⟨rfl, rfl⟩))
    refine bodyPost_ret (v := .tuple #[.agg #[.pointer (some ⟨b1, 0, none⟩)], .int .i64 0]) (by simp [results, Try.results32, go_sem, z0]) rfl ⟨rfl, ?_⟩
    exact (K2.out.alloc K2.out.size _).setCell (Nat.le_refl _) _
end
end Go.Proofs.Ytnekjbdogdghnaa.Ne
