/-
  The contract of Write. Conditions: a store; bytes that lie outside it, at most a million.
-/
import Derived.Test.YtjijgoflbjbnfaaGreatVM13
namespace Go.Proofs.YtjijgoflbjbnfaaGreat.Sr
open Go.RowKit Fr

theorem row_zero {w : World} {base : Nat} {v : Value} {l : List Int} (h : w.ownsRow base 5 1 v l.length (bv l)) : rowOf w v l := by
  refine ⟨h.1, ?_⟩
  rcases h.2 with h2 | ⟨g, cap, cur, h2, _, h3⟩
  · exact .inl h2
  · exact .inr ⟨g, cap, cur, h2, Nat.zero_le _, h3⟩
theorem okN_of {d : Bool} {k : ByteArray} (hr : rdy d [k] = 0) : okN k = true ∧ k.size ≤ 12 := by
  have hok : okN k = true := by
    have : ([k].all okN) = true := by
      unfold rdy at hr
      split at hr
      · cases hr
      · split at hr
        · assumption
        · cases hr
    simpa using this
  refine ⟨hok, ?_⟩
  unfold okN at hok
  simp only [Bool.and_eq_true, decide_eq_true_eq] at hok
  exact hok.1.2

set_option maxRecDepth 100000 in
set_option maxHeartbeats 1000000 in
theorem write_bad (w : World) (p : Nat) (s : S) (mb : Option Nat) (L : List Fi) (k : ByteArray) (v : Value) (h : StR w p s mb L) (hr : rdy s.d [k] ≠ 0) :
    Calls Tryz.prog 23 #[.pointer (some ⟨p, 0, none⟩), .string k, v] w fun e w' => e = .returned (.int .i64 (rdy s.d [k])) ∧ Mv w w' p mb L s mb L := by
  have HR := Lib.hid (ready_one h.blk k)
  obtain ⟨r, hr2⟩ : ∃ r, r = rdy s.d [k] := ⟨_, rfl⟩
  rw [← hr2] at HR hr ⊢
  have hb : (r != 0) = true := by simpa using hr
  have HS := Lib.hid h
  clear h hr hr2
  go_enter Tryz.func23, Tryz.ntmps23
  go_wp2_with (go_at_call 42; refine HR.out.mono ?_; rintro e w1 ⟨rfl, hb1⟩; have HB1 := Lib.hid hb1; clear hb1)
  go_ret
  exact ⟨rfl, Mv.of_below HS.out HB1.out⟩

set_option maxRecDepth 100000 in
set_option maxHeartbeats 1000000 in
theorem write_full (w : World) (p : Nat) (s : S) (mb : Option Nat) (L : List Fi) (k : ByteArray) (A : Option Addr) (n c : Nat) (h : StR w p s mb L) (hr : rdy s.d [k] = 0) (hf : s.room < s.used - ((bytL L k).length : Int) + n) (hn : n ≤ 1000000) :
    Calls Tryz.prog 23 #[.pointer (some ⟨p, 0, none⟩), .string k, .slice A n c] w fun e w' => e = .returned (.int .i64 7) ∧ Mv w w' p mb L s mb L := by
  have HR := Lib.hid (ready_one h.blk k)
  rw [hr] at HR
  have HS := Lib.hid h
  have hroom := h.room
  have hused := h.used
  have hle := byt_used L k
  obtain ⟨A0, n0, cc, hval, hn0⟩ : ∃ A0 n0 cc, valL L k = .slice A0 n0 cc ∧ n0 = (bytL L k).length := by
    obtain ⟨A0, cc, e, _⟩ := BAt.of_own (val_row h.rows k); exact ⟨A0, _, cc, e, rfl⟩
  have HVAL := Lib.hid hval
  obtain ⟨x, hx⟩ : ∃ x, x = s.room := ⟨_, rfl⟩
  obtain ⟨u, hu⟩ : ∃ u, u = s.used := ⟨_, rfl⟩
  have hx0 : 0 ≤ x ∧ x ≤ 1048576 := by omega
  have hu0 : 0 ≤ u ∧ u ≤ 1048576 := by omega
  have hn1 : (0 : Int) ≤ (n0 : Int) ∧ (n0 : Int) ≤ u := by omega
  rw [← hx, ← hu, ← hn0] at hf
  obtain ⟨x0, x1⟩ := hx0
  obtain ⟨u0, u1⟩ := hu0
  obtain ⟨n00, n01⟩ := hn1
  have e0 : (0 : Int) ≤ (n : Int) := by omega
  have e1 : (n : Int) ≤ 1000000 := by omega
  have HX := Lib.hid hx
  have HU := Lib.hid hu
  have HN0 := Lib.hid hn0
  clear h hr hx hu hroom hused hle hval hn0
  go_enter Tryz.func23, Tryz.ntmps23
  go_upto_region 4 with (go_at_call 42; refine HR.out.mono ?_; rintro e w1 ⟨rfl, hb1⟩; have HB1 := Lib.hid hb1; clear hb1)
  have c3 : ∀ q : InW w1, q.val.cell? ⟨p, 3, none⟩ = some (.int .i64 x) := fun q => q.cell (by rw [HX.out]; exact (blk_cells (HS.out.below HB1.out).blk).1.2.2.2.1)
  have c4 : ∀ q : InW w1, q.val.cell? ⟨p, 4, none⟩ = some (.int .i64 u) := fun q => q.cell (by rw [HU.out]; exact (blk_cells (HS.out.below HB1.out).blk).1.2.2.2.2.1)
  have c5 : ∀ q : InW w1, q.val.cell? ⟨p, 5, none⟩ = some (.map mb) := fun q => q.cell (blk_cells (HS.out.below HB1.out).blk).1.2.2.2.2.2
  have hlk : ∀ q : InW w1, (Instr.lookup 56 (.map mb) (.string k) false).run Tryz.prog q.val = .ok (.slice A0 n0 cc) q.val := fun q => by
    rw [← HVAL.out]; exact look_in (HS.out.below HB1.out).map k false q
  refine wp_region_below (W := w1) (by kernel_rfl) (by kernel_rfl) (Below.refl _ _) ?_
  repeat (go_big_quiet_step (fail))
  refine wpQuiet_nil ?_
  rintro _ ⟨q0, rfl⟩
  obtain ⟨wq, hbq⟩ := q0
  try dsimp only
  have HBQ := Lib.hid hbq
  clear c3 c4 c5 hlk hbq
  go_wp2
  go_ret
  exact ⟨rfl, Mv.of_below HS.out (HB1.out.trans (HBQ.out.mono HB1.out.size))⟩

set_option maxRecDepth 100000 in
set_option maxHeartbeats 1000000 in
/-- The store dies ahead of the first unit. -/
theorem write_down (w : World) (p : Nat) (s : S) (mb : Option Nat) (L : List Fi) (k : ByteArray) (A : Option Addr) (n c : Nat) (h : StR w p s mb L) (hr : rdy s.d [k] = 0) (hf : ¬ s.room < s.used - ((bytL L k).length : Int) + n) (hn : n ≤ 1000000) (hm : useN s (1 + (n : Int)) = 0) :
    Calls Tryz.prog 23 #[.pointer (some ⟨p, 0, none⟩), .string k, .slice A n c] w fun e w' => e = .returned (.int .i64 (dwn (useS s (1 + (n : Int))))) ∧ Mv w w' p mb L (useS s (1 + (n : Int))) mb L := by
  have HR := Lib.hid (ready_one h.blk k)
  rw [hr] at HR
  have HS := Lib.hid h
  have hroom := h.room
  have hused := h.used
  have hle := byt_used L k
  obtain ⟨A0, n0, cc, hval, hn0⟩ : ∃ A0 n0 cc, valL L k = .slice A0 n0 cc ∧ n0 = (bytL L k).length := by
    obtain ⟨A0, cc, e, _⟩ := BAt.of_own (val_row h.rows k); exact ⟨A0, _, cc, e, rfl⟩
  have HVAL := Lib.hid hval
  obtain ⟨x, hx⟩ : ∃ x, x = s.room := ⟨_, rfl⟩
  obtain ⟨u, hu⟩ : ∃ u, u = s.used := ⟨_, rfl⟩
  have hx0 : 0 ≤ x ∧ x ≤ 1048576 := by omega
  have hu0 : 0 ≤ u ∧ u ≤ 1048576 := by omega
  have hn1 : (0 : Int) ≤ (n0 : Int) ∧ (n0 : Int) ≤ u := by omega
  rw [← hx, ← hu, ← hn0] at hf
  obtain ⟨x0, x1⟩ := hx0
  obtain ⟨u0, u1⟩ := hu0
  obtain ⟨n00, n01⟩ := hn1
  have e0 : (0 : Int) ≤ (n : Int) := by omega
  have e1 : (n : Int) ≤ 1000000 := by omega
  have HX := Lib.hid hx
  have HU := Lib.hid hu
  have HN0 := Lib.hid hn0
  have huse : ∀ W, Below w.heap.size w W → Calls Tryz.prog 43 #[.pointer (some ⟨p, 0, none⟩), .int .i64 (1 + (n : Int))] W fun e w' => e = .returned (.int .i64 0) ∧ Own W w' p (useS s (1 + (n : Int))) mb := fun W hW => by
    rw [← hm]; exact use_any W p s mb (1 + (n : Int)) ((h.below hW).blk) (by omega) h.left
  have HUS := Lib.hid huse
  have hkeep := Lib.hid (useS_keeps s (1 + (n : Int)) (by omega) h.left)
  obtain ⟨s1, hs1⟩ : ∃ s1, s1 = useS s (1 + (n : Int)) := ⟨_, rfl⟩
  rw [← hs1] at HUS hkeep ⊢
  obtain ⟨d1, hd1⟩ : ∃ d1, d1 = dwn s1 := ⟨_, rfl⟩
  rw [← hd1]
  have hst : ∀ W, W.heap[p]? = some (blk s1 mb) → Calls Tryz.prog 45 #[.pointer (some ⟨p, 0, none⟩)] W fun e w' => e = .returned (.int .i64 d1) ∧ W = w' := fun W hW => by
    rw [hd1]; exact state_any W p s1 mb hW
  have HST := Lib.hid hst
  clear h hr hx hu hroom hused hle hval hn0 huse hm hst hs1 hd1
  go_enter Tryz.func23, Tryz.ntmps23
  go_upto_region 4 with (go_at_call 42; refine HR.out.mono ?_; rintro e w1 ⟨rfl, hb1⟩; have HB1 := Lib.hid hb1; clear hb1)
  have c3 : ∀ q : InW w1, q.val.cell? ⟨p, 3, none⟩ = some (.int .i64 x) := fun q => q.cell (by rw [HX.out]; exact (blk_cells (HS.out.below HB1.out).blk).1.2.2.2.1)
  have c4 : ∀ q : InW w1, q.val.cell? ⟨p, 4, none⟩ = some (.int .i64 u) := fun q => q.cell (by rw [HU.out]; exact (blk_cells (HS.out.below HB1.out).blk).1.2.2.2.2.1)
  have c5 : ∀ q : InW w1, q.val.cell? ⟨p, 5, none⟩ = some (.map mb) := fun q => q.cell (blk_cells (HS.out.below HB1.out).blk).1.2.2.2.2.2
  have hlk : ∀ q : InW w1, (Instr.lookup 56 (.map mb) (.string k) false).run Tryz.prog q.val = .ok (.slice A0 n0 cc) q.val := fun q => by
    rw [← HVAL.out]; exact look_in (HS.out.below HB1.out).map k false q
  refine wp_region_below (W := w1) (by kernel_rfl) (by kernel_rfl) (Below.refl _ _) ?_
  repeat (go_big_quiet_step (fail))
  refine wpQuiet_nil ?_
  rintro _ ⟨q0, rfl⟩
  obtain ⟨wq, hbq⟩ := q0
  try dsimp only
  have HBQ : Hid (Below w.heap.size w wq) := HB1.out.trans (hbq.mono HB1.out.size)
  clear c3 c4 c5 hlk hbq
  go_wp2_with (first
    | (go_at_call 45; (with_reducible refine (HST.out _ HOW.out.hp).mono ?_); rintro e w3 ⟨rfl, rfl⟩)
    | (go_at_call 43; (with_reducible refine (HUS.out _ HBQ.out).mono ?_); rintro e w2 ⟨rfl, how⟩; have HOW := Lib.hid how; clear how))
  go_ret
  exact ⟨rfl, (Mv.of_below HS.out HBQ.out).trans (Mv.of_own (HS.out.below HBQ.out) HOW.out hkeep.out.1 hkeep.out.2.1 hkeep.out.2.2)⟩

set_option maxRecDepth 100000 in
set_option maxHeartbeats 2000000 in
/-- The file has a beginning of these bytes. -/
theorem write_put (w : World) (p : Nat) (s : S) (mb : Option Nat) (L : List Fi) (k : ByteArray) (A : Option Addr) (n c : Nat) (bs : List Int) (m : Nat) (h : StR w p s mb L) (hr : rdy s.d [k] = 0) (hf : ¬ s.room < s.used - ((bytL L k).length : Int) + n) (hn : n ≤ 1000000) (hbs : bs.length = n) (hm : useN s (1 + (n : Int)) = (m : Int) + 1)
    (hv : ∀ w', Off (own p mb L) w w' → BAt w' (.slice A n c) bs) :
    Calls Tryz.prog 23 #[.pointer (some ⟨p, 0, none⟩), .string k, .slice A n c] w fun e w' => e = .returned (.int .i64 (dwn (useS s (1 + (n : Int))))) ∧ ∃ mb' v', Mv w w' p mb L { useS s (1 + (n : Int)) with used := s.used + ((m : Int) - ((bytL L k).length : Int)) } mb' (putL L k (v', bs.take m)) := by
  have hmn : m ≤ n := by have := useN_le s (1 + n) h.left; have e : ((1 + n : Nat) : Int) = 1 + (n : Int) := by omega
                         rw [e] at this; omega
  have hks := (okN_of hr).2
  have hcap : n ≤ c := by obtain ⟨_, _, e, h3, _⟩ := hv w (Off.refl _ _); cases e; omega
  have hsl : ∀ W : World, (Instr.slice 32 (.slice A n c) none (some (.int .i64 (m : Int))) none).run Tryz.prog W = .ok (.slice A m c) W := slice_to A n c m (by omega)
  have hmin : (bs.take m).length = m := by rw [List.length_take]; omega
  have HMN := Lib.hid hmn
  have HV := Lib.hid hv
  have HMIN := Lib.hid hmin
  have HR := Lib.hid (ready_one h.blk k)
  rw [hr] at HR
  have HS := Lib.hid h
  have hroom := h.room
  have hused := h.used
  have hle := byt_used L k
  obtain ⟨A0, n0, cc, hval, hn0⟩ : ∃ A0 n0 cc, valL L k = .slice A0 n0 cc ∧ n0 = (bytL L k).length := by
    obtain ⟨A0, cc, e, _⟩ := BAt.of_own (val_row h.rows k); exact ⟨A0, _, cc, e, rfl⟩
  have HVAL := Lib.hid hval
  obtain ⟨x, hx⟩ : ∃ x, x = s.room := ⟨_, rfl⟩
  obtain ⟨u, hu⟩ : ∃ u, u = s.used := ⟨_, rfl⟩
  have hx0 : 0 ≤ x ∧ x ≤ 1048576 := by omega
  have hu0 : 0 ≤ u ∧ u ≤ 1048576 := by omega
  have hn1 : (0 : Int) ≤ (n0 : Int) ∧ (n0 : Int) ≤ u := by omega
  rw [← hx, ← hu, ← hn0] at hf
  obtain ⟨x0, x1⟩ := hx0
  obtain ⟨u0, u1⟩ := hu0
  obtain ⟨n00, n01⟩ := hn1
  have e0 : (0 : Int) ≤ (n : Int) := by omega
  have e1 : (n : Int) ≤ 1000000 := by omega
  have HX := Lib.hid hx
  have HU := Lib.hid hu
  have HN0 := Lib.hid hn0
  have huse : ∀ W, Below w.heap.size w W → Calls Tryz.prog 43 #[.pointer (some ⟨p, 0, none⟩), .int .i64 (1 + (n : Int))] W fun e w' => e = .returned (.int .i64 ((m : Int) + 1)) ∧ Own W w' p (useS s (1 + (n : Int))) mb := fun W hW => by
    rw [← hm]; exact use_any W p s mb (1 + (n : Int)) ((h.below hW).blk) (by omega) h.left
  have HUS := Lib.hid huse
  have hkeep := Lib.hid (useS_keeps s (1 + (n : Int)) (by omega) h.left)
  obtain ⟨s1, hs1⟩ : ∃ s1, s1 = useS s (1 + (n : Int)) := ⟨_, rfl⟩
  rw [← hs1] at HUS hkeep ⊢
  obtain ⟨d1, hd1⟩ : ∃ d1, d1 = dwn s1 := ⟨_, rfl⟩
  rw [← hd1]
  have hst : ∀ W mb', W.heap[p]? = some (blk { s1 with used := s.used + ((m : Int) - ((bytL L k).length : Int)) } mb') → Calls Tryz.prog 45 #[.pointer (some ⟨p, 0, none⟩)] W fun e w' => e = .returned (.int .i64 d1) ∧ W = w' := fun W mb' hW => by
    rw [hd1]; exact state_any W p { s1 with used := s.used + ((m : Int) - ((bytL L k).length : Int)) } mb' hW
  have HST := Lib.hid hst
  have m0 : (0 : Int) ≤ (m : Int) := by omega
  have m1 : (m : Int) ≤ (n : Int) := by omega
  have g1 : decide ((0 : Int) < (m : Int) + 1) = true := decide_eq_true (by omega)
  have hroomN : Hid (((usedL L : Int) - (bytL L k).length + (bs.take m).length) ≤ s.room) := by
    show _ ≤ _
    rw [hmin]; omega
  have hused0 : Hid (0 ≤ s.used ∧ s.used ≤ 4000000 ∧ n0 ≤ 4000000 ∧ m ≤ 4000000) := by
    show _ ∧ _
    omega
  have hstep : ∀ w2 w3 w5 A4 c4, StR w2 p s1 mb L → Below w2.heap.size w2 w3 → w3.ownsRow w2.heap.size 5 1 (.slice A4 m c4) (bs.take m).length (bv (bs.take m)) → PutTo w3 w5 p s1 mb L k (.slice A4 m c4) (bs.take m) m →
      ∃ mb' v', Mv w2 w5 p mb L { s1 with used := s.used + ((m : Int) - ((bytL L k).length : Int)) } mb' (putL L k (v', bs.take m)) := by
    intro w2 w3 w5 A4 c4 h2 hb3 ho hp
    have h3 := h2.below hb3
    have hp2 : PutTo w3 w5 p s1 mb L k (.slice A4 m c4) (bs.take m) (bs.take m).length := by rw [hmin]; exact hp
    obtain ⟨mb', v', hmv⟩ := put_step (w2 := w3) h2 (Off.of_below _ hb3) h3.blk h3.map (fun x hx _ => h3.rows x hx) (row_zero ho) (fun i hi => .inr (ho.lt i hi).1) rfl rfl h2.left (by rw [hkeep.out.2.1]; exact hroomN.out) hp2
    refine ⟨mb', v', ?_⟩
    rw [hmin, hkeep.out.1] at hmv; exact hmv
  have HSTEP := Lib.hid hstep
  clear h hr hx hu hroom hused hle hval hn0 huse hm hst hs1 hd1 hstep hmn hcap hmin hbs hv
  go_enter Tryz.func23, Tryz.ntmps23
  go_upto_region 4 with (go_at_call 42; refine HR.out.mono ?_; rintro e w1 ⟨rfl, hb1⟩; have HB1 := Lib.hid hb1; clear hb1)
  have c3 : ∀ q : InW w1, q.val.cell? ⟨p, 3, none⟩ = some (.int .i64 x) := fun q => q.cell (by rw [HX.out]; exact (blk_cells (HS.out.below HB1.out).blk).1.2.2.2.1)
  have c4 : ∀ q : InW w1, q.val.cell? ⟨p, 4, none⟩ = some (.int .i64 u) := fun q => q.cell (by rw [HU.out]; exact (blk_cells (HS.out.below HB1.out).blk).1.2.2.2.2.1)
  have c5 : ∀ q : InW w1, q.val.cell? ⟨p, 5, none⟩ = some (.map mb) := fun q => q.cell (blk_cells (HS.out.below HB1.out).blk).1.2.2.2.2.2
  have hlk : ∀ q : InW w1, (Instr.lookup 56 (.map mb) (.string k) false).run Tryz.prog q.val = .ok (.slice A0 n0 cc) q.val := fun q => by
    rw [← HVAL.out]; exact look_in (HS.out.below HB1.out).map k false q
  refine wp_region_below (W := w1) (by kernel_rfl) (by kernel_rfl) (Below.refl _ _) ?_
  repeat (go_big_quiet_step (fail))
  refine wpQuiet_nil ?_
  rintro _ ⟨q0, rfl⟩
  obtain ⟨wq, hbq⟩ := q0
  try dsimp only
  have HBQ : Hid (Below w.heap.size w wq) := HB1.out.trans (hbq.mono HB1.out.size)
  clear c3 c4 c5 hlk hbq
  go_upto_region 8 with (go_at_call 43; (with_reducible refine (HUS.out _ HBQ.out).mono ?_); rintro e w2 ⟨rfl, how⟩; have HOW := Lib.hid how; clear how)
  have HMV : Hid (Mv w w2 p mb L s1 mb L) := (Mv.of_below HS.out HBQ.out).trans (Mv.of_own (HS.out.below HBQ.out) HOW.out hkeep.out.1 hkeep.out.2.1 hkeep.out.2.2)
  have hcl := clone_any w2 (.slice A m c) (bs.take m) ((BAt.take (HV.out w2 HMV.out.off) m HMN.out).1) (by rw [HMIN.out]; omega)
  have HCL := Lib.hid hcl
  clear hcl
  have hput : ∀ w3 A4 c4, Below w2.heap.size w2 w3 → Calls Tryz.prog 44 #[.pointer (some ⟨p, 0, none⟩), .string k, .slice A4 m c4] w3 fun e w' => e = .returned (.tuple #[]) ∧ PutTo w3 w' p s1 mb L k (.slice A4 m c4) (bs.take m) m := by
    intro w3 A4 c4 hb
    have h3 := HMV.out.st.below hb
    refine put_any w3 p mb s1 L k A4 A0 m c4 n0 cc (bs.take m) h3.blk h3.map hks HVAL.out HN0.out ?_
    rw [hkeep.out.1]; exact hused0.out
  have HPUT := Lib.hid hput
  clear hput g1
  go_wp2_with (first
    | (go_at_call 45; (with_reducible refine (HST.out _ _ HMV5.out.st.blk).mono ?_); rintro e w6 ⟨rfl, rfl⟩)
    | (go_at_call 44; (with_reducible refine (HPUT.out _ _ _ HB3.out).mono ?_); rintro e w5 ⟨rfl, hp5⟩
       obtain ⟨mb', v', hmv5⟩ := HSTEP.out w2 w3 w5 A4 c4 HMV.out.st HB3.out HO3.out hp5
       have HMV5 := Lib.hid hmv5
       clear hp5 hmv5)
    | (go_at_call 38; (with_reducible refine HCL.out.mono ?_); rintro e w3 ⟨v3, rfl, ho3, hb3⟩
       obtain ⟨A4, c4, hv4, _⟩ := BAt.of_own ho3
       rw [HMIN.out] at hv4
       subst hv4
       have HO3 := Lib.hid ho3
       have HB3 := Lib.hid hb3
       clear ho3 hb3))
  go_ret
  exact ⟨rfl, mb', v', HMV.out.trans HMV5.out⟩
end Go.Proofs.YtjijgoflbjbnfaaGreat.Sr

namespace Go.Proofs.YtjijgoflbjbnfaaGreat.Sr
open Go.RowKit Fr

theorem wpList_delete_run {P : Program} (w : World) {ops : Array Oper} {rest : List Oper} {o : Oper} {a : Act} {Q : Exit → Act → World → Prop} (hgd : o.guard = none) (s x : Operand) (t tn : TypeId)
    (ho : o.op = .call { callee := .builtin .delete, args := #[s, x], argTypes := #[t, tn] }) (vs vx : Value) (hs : a.eval s = vs) (hx : a.eval x = vx)
    (v' : Value) (w' : World) (hr : (Builtin.delete_ #[t, tn] o.type #[vs, vx]).run P w = .ok v' w') (h : wpList P ops Q rest (a.put o.dst v') w') : wpList P ops Q (o :: rest) a w :=
  wpList_plain hgd fun _ hK => by
    unfold Oper.wp execOp
    simp only [ho, resolve, invoke, builtin, Sem.run_bind, Sem.run_pure, Result.andThen_ok, List.map_toArray, List.map_cons, List.map_nil, hs, hx, hr]
    exact hK _ _ h

set_option maxRecDepth 100000 in
set_option maxHeartbeats 2000000 in
theorem remove_any (w : World) (p b : Nat) (s : S) (L : List Fi) (k : ByteArray) (h : StR w p s (some b) L) :
    Calls Tryz.prog 129 #[.pointer (some ⟨p, 0, none⟩), .string k] w fun e w' => e = .returned (.tuple #[]) ∧ StR w' p { s with used := s.used - ((bytL L k).length : Int) } (some b) (delL L k) ∧ Off (fun i => i = p ∨ i = b) w w' := by
  have HS := Lib.hid h
  have hroom := h.room
  have hused := h.used
  have hle := byt_used L k
  obtain ⟨A0, n0, cc, hval, hn0⟩ : ∃ A0 n0 cc, valL L k = .slice A0 n0 cc ∧ n0 = (bytL L k).length := by
    obtain ⟨A0, cc, e, _⟩ := BAt.of_own (val_row h.rows k); exact ⟨A0, _, cc, e, rfl⟩
  obtain ⟨u, hu⟩ : ∃ u, u = s.used := ⟨_, rfl⟩
  have hu0 : 0 ≤ u ∧ u ≤ 1048576 := by omega
  have hn1 : (0 : Int) ≤ (n0 : Int) ∧ (n0 : Int) ≤ u := by omega
  obtain ⟨u0, u1⟩ := hu0
  obtain ⟨n00, n01⟩ := hn1
  have c4 : ∀ q : InW w, q.val.cell? ⟨p, 4, none⟩ = some (.int .i64 u) := fun q => q.cell (by rw [hu]; exact (blk_cells h.blk).1.2.2.2.2.1)
  have c5 : ∀ q : InW w, q.val.cell? ⟨p, 5, none⟩ = some (.map (some b)) := fun q => q.cell (blk_cells h.blk).1.2.2.2.2.2
  have hlk : ∀ q : InW w, (Instr.lookup 56 (.map (some b)) (.string k) false).run Tryz.prog q.val = .ok (.slice A0 n0 cc) q.val := fun q => by
    rw [← hval]; exact look_in h.map k false q
  have HU := Lib.hid hu
  have HN0 := Lib.hid hn0
  clear hroom hused hle hval hn0 hu h
  go_enter Tryz.func129, Tryz.ntmps129
  go_upto_region 0 with fail
  refine wp_region_quiet_tail (C := fun w' => ∃ q : InW w, w' = q.val) 14 (by kernel_rfl) (by kernel_rfl) (by kernel_rfl) ⟨⟨w.drew, (Below.refl _ _).drew⟩, rfl⟩ ?_
  simp only [List.take_succ_cons, List.take_zero, List.drop_succ_cons, List.drop_zero]
  repeat (go_big_quiet_step (fail))
  refine wpQuiet_nil ?_
  rintro _ ⟨q0, rfl⟩
  obtain ⟨wq, hbq⟩ := q0
  try dsimp only
  have HSQ := Lib.hid (HS.out.below hbq)
  have f4 := (blk_cells HSQ.out.blk).2.2.2.2.2.1
  have c4q := (blk_cells HSQ.out.blk).1.2.2.2.2.1
  have HBQ := Lib.hid hbq
  clear c4 c5 hlk hbq
  go_upto_region 1 with fail
  generalize hW1 : wq.setCell ⟨p, 4, none⟩ (.int .i64 (u - (n0 : Int))) = W1
  have HW1 : Hid (W1.heap[p]? = some (blk { s with used := u - (n0 : Int) } (some b))) := by
    show _ = _
    rw [← hW1]; exact blk_set HSQ.out.blk 4 _ (by simp)
  have hne : p ≠ b := MapO.ne HSQ.out.map HSQ.out.blk
  have HM1 : Hid (MapR W1 b L) := by
    have := MapO.kept (mb := some b) (w' := W1) HSQ.out.map (fun b' e => by cases e; rw [← hW1]; exact Below.heap_setCell _ _ _ _ (Ne.symm hne))
    exact this
  have HO1 : Hid (Off (fun i => i = p ∨ i = b) w W1) := by
    have h1 : Off (fun i => i = p ∨ i = b) w wq := Off.of_below _ HBQ.out
    exact h1.trans (T' := fun i => i = p) (by rw [← hW1]; exact Off.of_grown (grownBy_set _ _ _) (fun i e => (Option.some.inj e).symm)) (fun i e => .inl (.inl e))
  clear hW1 c4q f4
  have c5 := (blk_cells HW1.out).1.2.2.2.2.2
  obtain ⟨w2, hr2, hm2, hg2, hs2⟩ := delete_run HM1.out k 0
  have HR2 := Lib.hid hr2
  have HM2 := Lib.hid hm2
  have HG2 := Lib.hid hg2
  clear hr2 hm2 hg2 hs2
  go_wp2_with (refine wpList_delete_run _ rfl _ _ 56 9 rfl _ _ rfl rfl _ _ HR2.out ?_)
  go_end0
  have hOff : Off (fun i => i = p ∨ i = b) w w2 := HO1.out.trans (T' := fun i => i = b) (Off.of_grown HG2.out (fun i e => (Option.some.inj e).symm)) (fun i e => .inl (.inr e))
  refine ⟨rfl, ⟨?_, HM2.out, fun x hx => ?_, HS.out.apart.sublist (del_sub L k), HS.out.keys.sublist (del_sub L k), ?_, ?_, HS.out.left⟩, hOff⟩
  · rw [← HN0.out, ← HU.out]
    exact block_grown HW1.out HG2.out hne
  · have hxl := (del_sub L k).subset hx
    refine row_kept (HS.out.rows x hxl) fun i hi => ?_
    obtain ⟨cur, hc⟩ := row_heap (HS.out.rows x hxl) hi
    refine hOff.2 i (Array.getElem?_eq_some_iff.1 hc).1 ?_
    rintro (rfl | rfl)
    · rw [HS.out.blk] at hc; cases hc
    · have := HS.out.map
      obtain ⟨es, c, h1, _⟩ := this
      rw [hc] at h1; cases h1
  · have h1 := used_del L k
    have h2 := HS.out.used
    show s.used - _ = _
    omega
  · have h1 := used_del L k
    have h2 := HS.out.room
    show (usedL (delL L k) : Int) ≤ s.room ∧ s.room ≤ _
    omega

/-- Behind put of a row that lies among no other file's. -/
theorem put_gen {w w3 : World} {p : Nat} {s : S} {mb : Option Nat} {L : List Fi} {k : ByteArray} {v : Value} {nb : List Int} (h : StR w p s mb L) (hv : rowOf w v nb)
    (hloc : ∀ x ∈ L, x.1 ≠ k → ∀ i, v.ownBlock = some i → x.2.1.ownBlock ≠ some i) (hroom : (usedL L : Int) - (bytL L k).length + nb.length ≤ s.room) (hput : PutTo w w3 p s mb L k v nb nb.length) :
    ∃ mb', StR w3 p { s with used := s.used + ((nb.length : Int) - ((bytL L k).length : Int)) } mb' (putL L k (v, nb)) ∧ Off (fun i => i = p ∨ mb = some i) w w3 ∧ ∀ i, own p mb' (putL L k (v, nb)) i → own p mb L i ∨ v.ownBlock = some i ∨ w.heap.size ≤ i := by
  obtain ⟨b', q1, q2, q3, q4⟩ := hput
  have hrow : ∀ {u : Value} {l : List Int}, rowOf w u l → rowOf w3 u l := fun {u l} hu => row_kept hu fun i hi => by
    obtain ⟨cur, hc⟩ := row_heap hu hi
    refine q4.2 i (Array.getElem?_eq_some_iff.1 hc).1 ?_
    rintro (rfl | e)
    · rw [h.blk] at hc; cases hc
    · have hm := h.map
      rw [e] at hm; obtain ⟨es, c, h1, _⟩ := hm; rw [hc] at h1; cases h1
  have hup := used_put (L := L) (k := k) (v := v) (l := nb)
  refine ⟨some b', ⟨q1, q2, fun x hx2 => ?_, pair_put _ h.apart h.keys fun x hx2 hn => ⟨fun i hi e => hloc x hx2 hn i e hi, fun i hi e => hloc x hx2 hn i hi e⟩, pair_put _ h.keys h.keys fun x _ hn => ⟨hn, hn.symm⟩, ?_, ?_, h.left⟩, q4, fun i hi => ?_⟩
  · rcases mem_put h.keys x hx2 with rfl | ⟨h1, h2⟩
    · exact hrow hv
    · exact hrow (h.rows x h1)
  · show s.used + _ = _
    have := h.used; omega
  · have := h.room
    show _ ≤ s.room ∧ s.room ≤ _
    omega
  · rcases hi with rfl | hi | ⟨x, hx2, hi⟩
    · exact .inl (.inl rfl)
    · rcases q3 with h1 | ⟨_, h1⟩
      · exact .inl (.inr (.inl (h1.trans hi)))
      · cases hi; exact .inr (.inr h1)
    · rcases mem_put h.keys x hx2 with rfl | ⟨h1, h2⟩
      · exact .inr (.inl hi)
      · exact .inl (.inr (.inr ⟨x, h1, hi⟩))
end Go.Proofs.YtjijgoflbjbnfaaGreat.Sr

namespace Go.Proofs.YtjijgoflbjbnfaaGreat.Sr
open Go.RowKit Fr

theorem strInf : (Tryz.prog.info? 9).map (fun i => (i.zero, i.size, i.bytes)) = some (some (.string ByteArray.empty), 1, 16) := by kernel_rfl
def sv (l : List ByteArray) : List Value := l.map Value.string
theorem nrow_own {w : World} {base : Nat} {v : Value} {ns : List ByteArray} (h : w.ownsRow base 9 1 v ns.length (sv ns)) (hn : 0 < ns.length) : ∃ g c, v = .slice (some ⟨g, 0, none⟩) ns.length c ∧ NRow w g ns := by
  rcases id h.2 with ⟨_, h2⟩ | ⟨g, cap, cur, rfl, _, hg, _⟩
  · omega
  · refine ⟨g, cap, rfl, (Array.getElem?_eq_some_iff.1 hg).1, fun j hj => ?_⟩
    rw [h.cellAt j (by simpa using hj)]
    simp [sv, List.getD, List.getElem?_eq_getElem hj]
/-- What find tells. -/
def fnd (d : Bool) (L : List Fi) (k : ByteArray) (ns : List ByteArray) : Int := if rdy d ns ≠ 0 then rdy d ns else if hasL L k = true then 0 else 13

set_option maxRecDepth 100000 in
set_option maxHeartbeats 2000000 in
theorem find_one (w : World) (p : Nat) (s : S) (mb : Option Nat) (L : List Fi) (k tn : ByteArray) (h : StR w p s mb L) :
    Calls Tryz.prog 82 #[.pointer (some ⟨p, 0, none⟩), .string k, .slice (some ⟨w.heap.size, 0, none⟩) 1 1] (w.alloc (.cells #[.string tn] 9)) fun e w' => e = .returned (.int .i64 (fnd s.d L k [tn, k])) ∧ Below w.heap.size w w' := by
  obtain ⟨i0, hi0, hz0, hz1, hz2⟩ := info_parts strInf
  have h1 : StR (w.alloc (.cells #[.string tn] 9)) p s mb L := h.below ((Below.refl _ _).alloc (Nat.le_refl _) _)
  have ho := World.ownsRow_lit (e := 9) (size := 1) (base := w.heap.size) w #[.string tn] 1 (Nat.le_refl _) (by decide) rfl
  have hb1 : Below w.heap.size w (w.alloc (.cells #[.string tn] 9)) := (Below.refl _ _).alloc (Nat.le_refl _) _
  have hs1 : (w.alloc (.cells #[.string tn] 9)).heap.size = w.heap.size + 1 := by simp
  generalize w.alloc (.cells #[.string tn] 9) = W at h1 ho hb1 hs1 ⊢
  generalize hg0 : w.heap.size = g0 at ho hs1 ⊢
  have HS := Lib.hid h1
  have HB := Lib.hid hb1
  have HG := Lib.hid hg0
  have hrd : ∀ W1 g c, StR W1 p s mb L → NRow W1 g [tn, k] → Calls Tryz.prog 42 #[.pointer (some ⟨p, 0, none⟩), .slice (some ⟨g, 0, none⟩) 2 c] W1 fun e w' => e = .returned (.int .i64 (rdy s.d [tn, k])) ∧ Below W1.heap.size W1 w' := fun W1 g c h2 h3 => ready_any W1 p s mb g c [tn, k] h2.blk h3 (by simp)
  have HRD := Lib.hid hrd
  have hlk : ∀ W1, StR W1 p s mb L → (Instr.lookup 56 (.map mb) (.string k) true).run Tryz.prog W1 = .ok (.tuple #[valL L k, .bool (hasL L k)]) W1 := fun W1 h2 => by
    have := lookup_run (w := W1) h2.map k true
    rw [if_pos rfl] at this; exact this
  have HLK := Lib.hid hlk
  obtain ⟨r, hr⟩ : ∃ r, r = rdy s.d [tn, k] := ⟨_, rfl⟩
  obtain ⟨hh, hhh⟩ : ∃ hh, hh = hasL L k := ⟨_, rfl⟩
  have HF : Hid (fnd s.d L k [tn, k] = if r ≠ 0 then r else if hh = true then 0 else 13) := by
    show _ = _
    rw [hr, hhh]; rfl
  rw [← hr] at HRD
  rw [← hhh] at HLK
  have HS1 := Lib.hid hs1
  have hown : ∀ i, own p mb L i → i < g0 := fun i hi => by rw [← hg0]; exact own_lt h hi
  have HOWN := Lib.hid hown
  clear h hrd hlk h1 hb1 hr hhh hg0 hs1 hown
  have HO := Lib.hid ho
  clear ho
  by_cases hr0 : r = 0
  · have HR0 := Lib.hid hr0
    subst hr0
    have HF2 : Hid (fnd s.d L k [tn, k] = if hh = true then 0 else 13) := by
      show _ = _
      rw [HF.out, if_neg (by decide)]
    clear HF
    cases hh
    · go_enter Tryz.func82, Tryz.ntmps82
      go_wp2_with (first
        | (at_builtin; refine wpList_append_own _ rfl _ _ 79 rfl g0 9 i0 _ 1 16 Tryz.underlying79 hi0 hz0 hz1 hz2 rfl (by decide) _ _ _ rfl (HO.out.alloc _) ⟨W.heap.size, 0, none⟩ 1 1 [.string k] rfl rfl (World.news_of_block (cs := #[.string k]) (t := 9) (fr := (0, 0)) (heap_alloc_new _ _)) (by simp [Value.oneCell']) (by decide) (by decide) (by have := HS1.out; simp; omega) ?_; intro v1 w1 hown1 hgrow1 hnil1
           obtain ⟨g1, c1, hv1, hn1⟩ := nrow_own (ns := [tn, k]) hown1 (Nat.succ_pos _)
           have hv1 : v1 = .slice (some ⟨g1, 0, none⟩) 2 c1 := hv1
           subst hv1
           have hs1 : StR w1 p s mb L := (HS.out.below ((Below.refl _ _).alloc (Nat.le_refl _) _)).kept (T := fun i => i = g0) (Off.of_grown hgrow1 (fun i e => (Option.some.inj e).symm)) (fun i hi e => by have := HOWN.out i hi; omega)
           have HW1 := Lib.hid hs1
           have HN1 := Lib.hid hn1
           have HB1 : Hid (Below g0 w w1) := (((HB.out.mono (Nat.le_of_eq HG.out.symm)).alloc (by have := HS1.out; omega) _).grown hgrow1 (by have := HS1.out; simp; omega) (fun i e => Nat.le_of_eq (Option.some.inj e)))
           clear hown1 hgrow1 hnil1 hn1 hs1)
        | (go_at_call 42; (with_reducible refine (HRD.out w1 g1 c1 HW1.out HN1.out).mono ?_); rintro e3 w3 ⟨rfl, hb3⟩
           have HB3 : Hid (Below g0 w w3) := HB1.out.trans (hb3.mono (by have := HB1.out.size; have := HG.out; omega))
           have c5 := (blk_cells (HW1.out.below hb3).blk).1.2.2.2.2.2
           have hlk := HLK.out w3 (HW1.out.below hb3)
           clear hb3))
      go_ret
      exact ⟨ret_int HF2.out.symm, HB3.out⟩
    · go_enter Tryz.func82, Tryz.ntmps82
      go_wp2_with (first
        | (at_builtin; refine wpList_append_own _ rfl _ _ 79 rfl g0 9 i0 _ 1 16 Tryz.underlying79 hi0 hz0 hz1 hz2 rfl (by decide) _ _ _ rfl (HO.out.alloc _) ⟨W.heap.size, 0, none⟩ 1 1 [.string k] rfl rfl (World.news_of_block (cs := #[.string k]) (t := 9) (fr := (0, 0)) (heap_alloc_new _ _)) (by simp [Value.oneCell']) (by decide) (by decide) (by have := HS1.out; simp; omega) ?_; intro v1 w1 hown1 hgrow1 hnil1
           obtain ⟨g1, c1, hv1, hn1⟩ := nrow_own (ns := [tn, k]) hown1 (Nat.succ_pos _)
           have hv1 : v1 = .slice (some ⟨g1, 0, none⟩) 2 c1 := hv1
           subst hv1
           have hs1 : StR w1 p s mb L := (HS.out.below ((Below.refl _ _).alloc (Nat.le_refl _) _)).kept (T := fun i => i = g0) (Off.of_grown hgrow1 (fun i e => (Option.some.inj e).symm)) (fun i hi e => by have := HOWN.out i hi; omega)
           have HW1 := Lib.hid hs1
           have HN1 := Lib.hid hn1
           have HB1 : Hid (Below g0 w w1) := (((HB.out.mono (Nat.le_of_eq HG.out.symm)).alloc (by have := HS1.out; omega) _).grown hgrow1 (by have := HS1.out; simp; omega) (fun i e => Nat.le_of_eq (Option.some.inj e)))
           clear hown1 hgrow1 hnil1 hn1 hs1)
        | (go_at_call 42; (with_reducible refine (HRD.out w1 g1 c1 HW1.out HN1.out).mono ?_); rintro e3 w3 ⟨rfl, hb3⟩
           have HB3 : Hid (Below g0 w w3) := HB1.out.trans (hb3.mono (by have := HB1.out.size; have := HG.out; omega))
           have c5 := (blk_cells (HW1.out.below hb3).blk).1.2.2.2.2.2
           have hlk := HLK.out w3 (HW1.out.below hb3)
           clear hb3))
      go_ret
      exact ⟨ret_int HF2.out.symm, HB3.out⟩
  · have hrb : (r != 0) = true := by simpa using hr0
    have HF2 : Hid (fnd s.d L k [tn, k] = r) := by
      show _ = _
      rw [HF.out, if_pos hr0]
    clear HF
    go_enter Tryz.func82, Tryz.ntmps82
    go_wp2_with (first
      | (at_builtin; refine wpList_append_own _ rfl _ _ 79 rfl g0 9 i0 _ 1 16 Tryz.underlying79 hi0 hz0 hz1 hz2 rfl (by decide) _ _ _ rfl (HO.out.alloc _) ⟨W.heap.size, 0, none⟩ 1 1 [.string k] rfl rfl (World.news_of_block (cs := #[.string k]) (t := 9) (fr := (0, 0)) (heap_alloc_new _ _)) (by simp [Value.oneCell']) (by decide) (by decide) (by have := HS1.out; simp; omega) ?_; intro v1 w1 hown1 hgrow1 hnil1
         obtain ⟨g1, c1, hv1, hn1⟩ := nrow_own (ns := [tn, k]) hown1 (Nat.succ_pos _)
         have hv1 : v1 = .slice (some ⟨g1, 0, none⟩) 2 c1 := hv1
         subst hv1
         have hs1 : StR w1 p s mb L := (HS.out.below ((Below.refl _ _).alloc (Nat.le_refl _) _)).kept (T := fun i => i = g0) (Off.of_grown hgrow1 (fun i e => (Option.some.inj e).symm)) (fun i hi e => by have := HOWN.out i hi; omega)
         have HW1 := Lib.hid hs1
         have HN1 := Lib.hid hn1
         have HB1 : Hid (Below g0 w w1) := (((HB.out.mono (Nat.le_of_eq HG.out.symm)).alloc (by have := HS1.out; omega) _).grown hgrow1 (by have := HS1.out; simp; omega) (fun i e => Nat.le_of_eq (Option.some.inj e)))
         clear hown1 hgrow1 hnil1 hn1 hs1)
      | (go_at_call 42; (with_reducible refine (HRD.out w1 g1 c1 HW1.out HN1.out).mono ?_); rintro e3 w3 ⟨rfl, hb3⟩
         have HB3 : Hid (Below g0 w w3) := HB1.out.trans (hb3.mono (by have := HB1.out.size; have := HG.out; omega))
         have c5 := (blk_cells (HW1.out.below hb3).blk).1.2.2.2.2.2
         have hlk := HLK.out w3 (HW1.out.below hb3)
         clear hb3))
    go_ret
    exact ⟨ret_int HF2.out.symm, HB3.out⟩
end Go.Proofs.YtjijgoflbjbnfaaGreat.Sr

namespace Go.Proofs.YtjijgoflbjbnfaaGreat.Sr
open Go.RowKit Fr

set_option maxRecDepth 100000 in
set_option maxHeartbeats 1000000 in
theorem rename_bad (w : World) (p : Nat) (s : S) (mb : Option Nat) (L : List Fi) (k tn : ByteArray) (h : StR w p s mb L) (hr : fnd s.d L k [tn, k] ≠ 0) :
    Calls Tryz.prog 92 #[.pointer (some ⟨p, 0, none⟩), .string k, .string tn] w fun e w' => e = .returned (.int .i64 (fnd s.d L k [tn, k])) ∧ Mv w w' p mb L s mb L := by
  have HR := Lib.hid (find_one w p s mb L k tn h)
  obtain ⟨r, hr2⟩ : ∃ r, r = fnd s.d L k [tn, k] := ⟨_, rfl⟩
  rw [← hr2] at HR hr ⊢
  have hb : (r != 0) = true := by simpa using hr
  have HS := Lib.hid h
  clear h hr hr2
  go_enter Tryz.func92, Tryz.ntmps92
  go_wp2_with (go_at_call 82; refine HR.out.mono ?_; rintro e w1 ⟨rfl, hb1⟩; have HB1 := Lib.hid hb1; clear hb1)
  go_ret
  exact ⟨rfl, Mv.of_below HS.out HB1.out⟩

set_option maxRecDepth 100000 in
set_option maxHeartbeats 1000000 in
theorem rename_down (w : World) (p : Nat) (s : S) (mb : Option Nat) (L : List Fi) (k tn : ByteArray) (h : StR w p s mb L) (hr : fnd s.d L k [tn, k] = 0) (hm : useN s 1 = 0) :
    Calls Tryz.prog 92 #[.pointer (some ⟨p, 0, none⟩), .string k, .string tn] w fun e w' => e = .returned (.int .i64 (dwn (useS s 1))) ∧ Mv w w' p mb L (useS s 1) mb L := by
  have HR := Lib.hid (find_one w p s mb L k tn h)
  rw [hr] at HR
  have HS := Lib.hid h
  have huse : ∀ W, Below w.heap.size w W → Calls Tryz.prog 43 #[.pointer (some ⟨p, 0, none⟩), .int .i64 1] W fun e w' => e = .returned (.int .i64 0) ∧ Own W w' p (useS s 1) mb := fun W hW => by
    rw [← hm]; exact use_any W p s mb 1 ((h.below hW).blk) (by decide) h.left
  have HUS := Lib.hid huse
  have hkeep := Lib.hid (useS_keeps s 1 (by decide) h.left)
  obtain ⟨s1, hs1⟩ : ∃ s1, s1 = useS s 1 := ⟨_, rfl⟩
  rw [← hs1] at HUS hkeep ⊢
  obtain ⟨d1, hd1⟩ : ∃ d1, d1 = dwn s1 := ⟨_, rfl⟩
  rw [← hd1]
  have hst : ∀ W, W.heap[p]? = some (blk s1 mb) → Calls Tryz.prog 45 #[.pointer (some ⟨p, 0, none⟩)] W fun e w' => e = .returned (.int .i64 d1) ∧ W = w' := fun W hW => by
    rw [hd1]; exact state_any W p s1 mb hW
  have HST := Lib.hid hst
  clear h hr huse hm hst hs1 hd1
  go_enter Tryz.func92, Tryz.ntmps92
  go_wp2_with (first
    | (go_at_call 45; (with_reducible refine (HST.out _ HOW.out.hp).mono ?_); rintro e w3 ⟨rfl, rfl⟩)
    | (go_at_call 43; (with_reducible refine (HUS.out _ HB1.out).mono ?_); rintro e w2 ⟨rfl, how⟩; have HOW := Lib.hid how; clear how)
    | (go_at_call 82; (with_reducible refine HR.out.mono ?_); rintro e w1 ⟨rfl, hb1⟩; have HB1 := Lib.hid hb1; clear hb1))
  go_ret
  exact ⟨rfl, (Mv.of_below HS.out HB1.out).trans (Mv.of_own (HS.out.below HB1.out) HOW.out hkeep.out.1 hkeep.out.2.1 hkeep.out.2.2)⟩

theorem has_some {w : World} {p : Nat} {s : S} {mb : Option Nat} {L : List Fi} {k : ByteArray} (h : StR w p s mb L) (hh : hasL L k = true) : ∃ b, mb = some b := by
  cases mb with
  | some b => exact ⟨b, rfl⟩
  | none =>
    cases (show L = [] from h.map)
    cases hh
theorem StR.norm {w : World} {p : Nat} {s : S} {mb : Option Nat} {L : List Fi} (h : StR w p s mb L) (u : Int) (hu : u = s.used) : StR w p { s with used := u } mb L := by
  subst hu
  exact h
/-- Behind remove and put: the file goes by its new name. -/
theorem ren_step {w w2 w3 : World} {p b : Nat} {s : S} {L : List Fi} {k tn : ByteArray} (h : StR w p s (some b) L) (_hh : hasL L k = true) (h2 : StR w2 p { s with used := s.used - ((bytL L k).length : Int) } (some b) (delL L k)) (ho : Off (fun i => i = p ∨ i = b) w w2)
    (hput : PutTo w2 w3 p { s with used := s.used - ((bytL L k).length : Int) } (some b) (delL L k) tn (valL L k) (bytL L k) (bytL L k).length) :
    ∃ mb', Mv w w3 p (some b) L { s with used := (usedL (putL (delL L k) tn (valL L k, bytL L k)) : Int) } mb' (putL (delL L k) tn (valL L k, bytL L k)) := by
  have hvr : rowOf w2 (valL L k) (bytL L k) := row_kept (val_row h.rows k) fun i hi => by
    obtain ⟨cur, hc⟩ := row_heap (val_row h.rows k) hi
    refine ho.2 i (Array.getElem?_eq_some_iff.1 hc).1 ?_
    rintro (rfl | rfl)
    · rw [h.blk] at hc; cases hc
    · have := h.map
      obtain ⟨es, c, h1, _⟩ := this
      rw [hc] at h1; cases h1
  have hud := used_del L k
  have hle := byt_used (delL L k) tn
  obtain ⟨mb', q1, q2, q3⟩ := put_gen h2 hvr (fun x hx _ i hi => apart_val h.apart ((mem_del h.keys x).1 hx).1 ((mem_del h.keys x).1 hx).2 hi) (by
    have := h.room
    show _ ≤ s.room
    omega) hput
  have hu3 := q1.used
  refine ⟨mb', ?_, (ho.mono fun i e => e.elim (fun e => .inl e) (fun e => .inr (.inl (by rw [e])))).trans q2 (fun i e => .inl (e.elim (fun e => .inl e) (fun e => .inr (.inl e)))), fun i hi => ?_⟩
  · exact q1.norm _ hu3.symm
  · rcases q3 i hi with h1 | h1 | h1
    · rcases h1 with h1 | h1 | ⟨x, hx, h1⟩
      · exact .inl (.inl h1)
      · exact .inl (.inr (.inl h1))
      · exact .inl (.inr (.inr ⟨x, ((mem_del h.keys x).1 hx).1, h1⟩))
    · obtain ⟨x, hx, _, h2⟩ := val_own h1
      exact .inl (.inr (.inr ⟨x, hx, h2⟩))
    · exact .inr (Nat.le_trans ho.1.size h1)

set_option maxRecDepth 100000 in
set_option maxHeartbeats 2000000 in
theorem rename_put (w : World) (p : Nat) (s : S) (mb : Option Nat) (L : List Fi) (k tn : ByteArray) (h : StR w p s mb L) (hr : fnd s.d L k [tn, k] = 0) (hm : useN s 1 = 1) (hh : hasL L k = true) (ht : tn.size ≤ 12) :
    Calls Tryz.prog 92 #[.pointer (some ⟨p, 0, none⟩), .string k, .string tn] w fun e w' => e = .returned (.int .i64 (dwn (useS s 1))) ∧ ∃ mb', Mv w w' p mb L { useS s 1 with used := (usedL (putL (delL L k) tn (valL L k, bytL L k)) : Int) } mb' (putL (delL L k) tn (valL L k, bytL L k)) := by
  obtain ⟨b, rfl⟩ := has_some h hh
  have HR := Lib.hid (find_one w p s (some b) L k tn h)
  rw [hr] at HR
  have HS := Lib.hid h
  have huse : ∀ W, Below w.heap.size w W → Calls Tryz.prog 43 #[.pointer (some ⟨p, 0, none⟩), .int .i64 1] W fun e w' => e = .returned (.int .i64 1) ∧ Own W w' p (useS s 1) (some b) := fun W hW => by
    rw [← hm]; have := use_any W p s (some b) 1 ((h.below hW).blk) (by decide) h.left; rw [hm] at this ⊢; exact this
  have HUS := Lib.hid huse
  have hkeep := Lib.hid (useS_keeps s 1 (by decide) h.left)
  obtain ⟨s1, hs1⟩ : ∃ s1, s1 = useS s 1 := ⟨_, rfl⟩
  rw [← hs1] at HUS hkeep ⊢
  obtain ⟨d1, hd1⟩ : ∃ d1, d1 = dwn s1 := ⟨_, rfl⟩
  rw [← hd1]
  have hst : ∀ W mb' u, W.heap[p]? = some (blk { s1 with used := u } mb') → Calls Tryz.prog 45 #[.pointer (some ⟨p, 0, none⟩)] W fun e w' => e = .returned (.int .i64 d1) ∧ W = w' := fun W mb' u hW => by
    rw [hd1]; exact state_any W p { s1 with used := u } mb' hW
  have HST := Lib.hid hst
  obtain ⟨A0, n0, cc, hval, hn0⟩ : ∃ A0 n0 cc, valL L k = .slice A0 n0 cc ∧ n0 = (bytL L k).length := by
    obtain ⟨A0, cc, e, _⟩ := BAt.of_own (val_row h.rows k); exact ⟨A0, _, cc, e, rfl⟩
  have hroom := h.room
  have hle := byt_used L k
  have hud := used_del L k
  have hused := h.used
  have hput : ∀ W, StR W p { s1 with used := s1.used - ((bytL L k).length : Int) } (some b) (delL L k) → Calls Tryz.prog 44 #[.pointer (some ⟨p, 0, none⟩), .string tn, .slice A0 n0 cc] W fun e w' => e = .returned (.tuple #[]) ∧ PutTo W w' p { s1 with used := s1.used - ((bytL L k).length : Int) } (some b) (delL L k) tn (valL L k) (bytL L k) (bytL L k).length := by
    intro W hW
    obtain ⟨A1, c1, e1, _⟩ := BAt.of_own (val_row hW.rows tn)
    have hle2 := byt_used (delL L k) tn
    have := put_any W p (some b) { s1 with used := s1.used - ((bytL L k).length : Int) } (delL L k) tn A0 A1 n0 cc _ c1 (bytL L k) hW.blk hW.map ht e1 rfl (by
      have h1 := hkeep.out.1
      show 0 ≤ s1.used - _ ∧ s1.used - _ ≤ _ ∧ _
      omega)
    rw [hval, ← hn0]
    rw [← hn0] at this
    exact this
  have HPUT := Lib.hid hput
  have hlk : ∀ W, StR W p s1 (some b) L → (Instr.lookup 56 (.map (some b)) (.string k) false).run Tryz.prog W = .ok (.slice A0 n0 cc) W := fun W h2 => by
    rw [← hval]; exact lookup_run (w := W) h2.map k false
  have HLK := Lib.hid hlk
  clear h hr huse hm hst hs1 hd1 hput hlk hval hn0 hroom hle hud hused
  go_enter Tryz.func92, Tryz.ntmps92
  go_wp2_with (first
    | (go_at_call 45; (with_reducible refine (HST.out _ _ _ HMV5.out.st.blk).mono ?_); rintro e w6 ⟨rfl, rfl⟩)
    | (go_at_call 44; (with_reducible refine (HPUT.out _ H4.out.1).mono ?_); rintro e w5 ⟨rfl, hp5⟩
       obtain ⟨mb', hmv5⟩ := ren_step HMV.out.st hh H4.out.1 H4.out.2 hp5
       have HMV5 := Lib.hid hmv5
       clear hp5 hmv5)
    | (go_at_call 129; (with_reducible refine (remove_any w2 p b s1 L k HMV.out.st).mono ?_); rintro e w4 ⟨rfl, h4⟩; have H4 := Lib.hid h4; clear h4)
    | (go_at_call 43; (with_reducible refine (HUS.out _ HB1.out).mono ?_); rintro e w2 ⟨rfl, how⟩
       have HMV : Hid (Mv w w2 p (some b) L s1 (some b) L) := (Mv.of_below HS.out HB1.out).trans (Mv.of_own (HS.out.below HB1.out) how hkeep.out.1 hkeep.out.2.1 hkeep.out.2.2)
       have c5 := (blk_cells HMV.out.st.blk).1.2.2.2.2.2
       have hlk := HLK.out w2 HMV.out.st
       clear how)
    | (go_at_call 82; (with_reducible refine HR.out.mono ?_); rintro e w1 ⟨rfl, hb1⟩; have HB1 := Lib.hid hb1; clear hb1))
  go_ret
  exact ⟨rfl, mb', HMV.out.trans HMV5.out⟩
end Go.Proofs.YtjijgoflbjbnfaaGreat.Sr
