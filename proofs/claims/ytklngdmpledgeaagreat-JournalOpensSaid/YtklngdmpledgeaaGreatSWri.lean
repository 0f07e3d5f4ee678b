/-
  The contract of Write. Conditions: a store; bytes that lie outside it, at most a million.
-/
import Derived.Test.YtklngdmpledgeaaGreatJZ14
namespace Go.Proofs.YtklngdmpledgeaaGreat.Sr
open Go.RowKit Fr

theorem row_zero {w : World} {base : Nat} {v : Value} {l : List Int} (h : w.ownsRow base 5 1 v l.length (bv l)) : rowOf w v l := by
  refine ⟨h.1, ?_⟩
  rcases h.2 with h2 | ⟨g, cap, cur, h2, _, h3⟩
  · exact .inl h2
  · exact .inr ⟨g, cap, cur, h2, Nat.zero_le _, h3⟩
theorem okN_of {d : Bool} {k : ByteArray} (hr : rdy d [k] = 0) : okN k = true ∧ k.size ≤ 12 := by
  have hok : okN k = true := by
    have : ([k].all okN) = true := by
      unfold rdy at hr
      split at hr
      · cases hr
      · split at hr
        · assumption
        · cases hr
    simpa using this
  refine ⟨hok, ?_⟩
  unfold okN at hok
  simp only [Bool.and_eq_true, decide_eq_true_eq] at hok
  exact hok.1.2

set_option maxRecDepth 100000 in
set_option maxHeartbeats 1000000 in
theorem write_bad (w : World) (p : Nat) (s : S) (mb : Option Nat) (L : List Fi) (k : ByteArray) (v : Value) (h : StR w p s mb L) (hr : rdy s.d [k] ≠ 0) :
    Calls Tryz.prog 5 #[.pointer (some ⟨p, 0, none⟩), .string k, v] w fun e w' => e = .returned (.int .i64 (rdy s.d [k])) ∧ Mv w w' p mb L s mb L := by
  have HR := Lib.hid (ready_one h.blk k)
  obtain ⟨r, hr2⟩ : ∃ r, r = rdy s.d [k] := ⟨_, rfl⟩
  rw [← hr2] at HR hr ⊢
  have hb : (r != 0) = true := by simpa using hr
  have HS := Lib.hid h
  clear h hr hr2
  go_enter Tryz.func5, Tryz.ntmps5
  go_wp2_with (go_at_call 15; refine HR.out.mono ?_; rintro e w1 ⟨rfl, hb1⟩; have HB1 := Lib.hid hb1; clear hb1)
  go_ret
  exact ⟨rfl, Mv.of_below HS.out HB1.out⟩

set_option maxRecDepth 100000 in
set_option maxHeartbeats 1000000 in
theorem write_full (w : World) (p : Nat) (s : S) (mb : Option Nat) (L : List Fi) (k : ByteArray) (A : Option Addr) (n c : Nat) (h : StR w p s mb L) (hr : rdy s.d [k] = 0) (hf : s.room < s.used - ((bytL L k).length : Int) + n) (hn : n ≤ 1000000) :
    Calls Tryz.prog 5 #[.pointer (some ⟨p, 0, none⟩), .string k, .slice A n c] w fun e w' => e = .returned (.int .i64 7) ∧ Mv w w' p mb L s mb L := by
  have HR := Lib.hid (ready_one h.blk k)
  rw [hr] at HR
  have HS := Lib.hid h
  have hroom := h.room
  have hused := h.used
  have hle := byt_used L k
  obtain ⟨A0, n0, cc, hval, hn0⟩ : ∃ A0 n0 cc, valL L k = .slice A0 n0 cc ∧ n0 = (bytL L k).length := by
    obtain ⟨A0, cc, e, _⟩ := BAt.of_own (val_row h.rows k); exact ⟨A0, _, cc, e, rfl⟩
  have HVAL := Lib.hid hval
  obtain ⟨x, hx⟩ : ∃ x, x = s.room := ⟨_, rfl⟩
  obtain ⟨u, hu⟩ : ∃ u, u = s.used := ⟨_, rfl⟩
  have hx0 : 0 ≤ x ∧ x ≤ 1048576 := by omega
  have hu0 : 0 ≤ u ∧ u ≤ 1048576 := by omega
  have hn1 : (0 : Int) ≤ (n0 : Int) ∧ (n0 : Int) ≤ u := by omega
  rw [← hx, ← hu, ← hn0] at hf
  obtain ⟨x0, x1⟩ := hx0
  obtain ⟨u0, u1⟩ := hu0
  obtain ⟨n00, n01⟩ := hn1
  have e0 : (0 : Int) ≤ (n : Int) := by omega
  have e1 : (n : Int) ≤ 1000000 := by omega
  have HX := Lib.hid hx
  have HU := Lib.hid hu
  have HN0 := Lib.hid hn0
  clear h hr hx hu hroom hused hle hval hn0
  go_enter Tryz.func5, Tryz.ntmps5
  go_upto_region 4 with (go_at_call 15; refine HR.out.mono ?_; rintro e w1 ⟨rfl, hb1⟩; have HB1 := Lib.hid hb1; clear hb1)
  have c3 : ∀ q : InW w1, q.val.cell? ⟨p, 3, none⟩ = some (.int .i64 x) := fun q => q.cell (by rw [HX.out]; exact (blk_cells (HS.out.below HB1.out).blk).1.2.2.2.1)
  have c4 : ∀ q : InW w1, q.val.cell? ⟨p, 4, none⟩ = some (.int .i64 u) := fun q => q.cell (by rw [HU.out]; exact (blk_cells (HS.out.below HB1.out).blk).1.2.2.2.2.1)
  have c5 : ∀ q : InW w1, q.val.cell? ⟨p, 5, none⟩ = some (.map mb) := fun q => q.cell (blk_cells (HS.out.below HB1.out).blk).1.2.2.2.2.2
  have hlk : ∀ q : InW w1, (Instr.lookup 47 (.map mb) (.string k) false).run Tryz.prog q.val = .ok (.slice A0 n0 cc) q.val := fun q => by
    rw [← HVAL.out]; exact look_in (HS.out.below HB1.out).map k false q
  refine wp_region_below (W := w1) (by kernel_rfl) (by kernel_rfl) (Below.refl _ _) ?_
  repeat (go_big_quiet_step (fail))
  refine wpQuiet_nil ?_
  rintro _ ⟨q0, rfl⟩
  obtain ⟨wq, hbq⟩ := q0
  try dsimp only
  have HBQ := Lib.hid hbq
  clear c3 c4 c5 hlk hbq
  go_wp2
  go_ret
  exact ⟨rfl, Mv.of_below HS.out (HB1.out.trans (HBQ.out.mono HB1.out.size))⟩

set_option maxRecDepth 100000 in
set_option maxHeartbeats 1000000 in
/-- The store dies ahead of the first unit. -/
theorem write_down (w : World) (p : Nat) (s : S) (mb : Option Nat) (L : List Fi) (k : ByteArray) (A : Option Addr) (n c : Nat) (h : StR w p s mb L) (hr : rdy s.d [k] = 0) (hf : ¬ s.room < s.used - ((bytL L k).length : Int) + n) (hn : n ≤ 1000000) (hm : useN s (1 + (n : Int)) = 0) :
    Calls Tryz.prog 5 #[.pointer (some ⟨p, 0, none⟩), .string k, .slice A n c] w fun e w' => e = .returned (.int .i64 (dwn (useS s (1 + (n : Int))))) ∧ Mv w w' p mb L (useS s (1 + (n : Int))) mb L := by
  have HR := Lib.hid (ready_one h.blk k)
  rw [hr] at HR
  have HS := Lib.hid h
  have hroom := h.room
  have hused := h.used
  have hle := byt_used L k
  obtain ⟨A0, n0, cc, hval, hn0⟩ : ∃ A0 n0 cc, valL L k = .slice A0 n0 cc ∧ n0 = (bytL L k).length := by
    obtain ⟨A0, cc, e, _⟩ := BAt.of_own (val_row h.rows k); exact ⟨A0, _, cc, e, rfl⟩
  have HVAL := Lib.hid hval
  obtain ⟨x, hx⟩ : ∃ x, x = s.room := ⟨_, rfl⟩
  obtain ⟨u, hu⟩ : ∃ u, u = s.used := ⟨_, rfl⟩
  have hx0 : 0 ≤ x ∧ x ≤ 1048576 := by omega
  have hu0 : 0 ≤ u ∧ u ≤ 1048576 := by omega
  have hn1 : (0 : Int) ≤ (n0 : Int) ∧ (n0 : Int) ≤ u := by omega
  rw [← hx, ← hu, ← hn0] at hf
  obtain ⟨x0, x1⟩ := hx0
  obtain ⟨u0, u1⟩ := hu0
  obtain ⟨n00, n01⟩ := hn1
  have e0 : (0 : Int) ≤ (n : Int) := by omega
  have e1 : (n : Int) ≤ 1000000 := by omega
  have HX := Lib.hid hx
  have HU := Lib.hid hu
  have HN0 := Lib.hid hn0
  have huse : ∀ W, Below w.heap.size w W → Calls Tryz.prog 16 #[.pointer (some ⟨p, 0, none⟩), .int .i64 (1 + (n : Int))] W fun e w' => e = .returned (.int .i64 0) ∧ Own W w' p (useS s (1 + (n : Int))) mb := fun W hW => by
    rw [← hm]; exact use_any W p s mb (1 + (n : Int)) ((h.below hW).blk) (by omega) h.left
  have HUS := Lib.hid huse
  have hkeep := Lib.hid (useS_keeps s (1 + (n : Int)) (by omega) h.left)
  obtain ⟨s1, hs1⟩ : ∃ s1, s1 = useS s (1 + (n : Int)) := ⟨_, rfl⟩
  rw [← hs1] at HUS hkeep ⊢
  obtain ⟨d1, hd1⟩ : ∃ d1, d1 = dwn s1 := ⟨_, rfl⟩
  rw [← hd1]
  have hst : ∀ W, W.heap[p]? = some (blk s1 mb) → Calls Tryz.prog 19 #[.pointer (some ⟨p, 0, none⟩)] W fun e w' => e = .returned (.int .i64 d1) ∧ W = w' := fun W hW => by
    rw [hd1]; exact state_any W p s1 mb hW
  have HST := Lib.hid hst
  clear h hr hx hu hroom hused hle hval hn0 huse hm hst hs1 hd1
  go_enter Tryz.func5, Tryz.ntmps5
  go_upto_region 4 with (go_at_call 15; refine HR.out.mono ?_; rintro e w1 ⟨rfl, hb1⟩; have HB1 := Lib.hid hb1; clear hb1)
  have c3 : ∀ q : InW w1, q.val.cell? ⟨p, 3, none⟩ = some (.int .i64 x) := fun q => q.cell (by rw [HX.out]; exact (blk_cells (HS.out.below HB1.out).blk).1.2.2.2.1)
  have c4 : ∀ q : InW w1, q.val.cell? ⟨p, 4, none⟩ = some (.int .i64 u) := fun q => q.cell (by rw [HU.out]; exact (blk_cells (HS.out.below HB1.out).blk).1.2.2.2.2.1)
  have c5 : ∀ q : InW w1, q.val.cell? ⟨p, 5, none⟩ = some (.map mb) := fun q => q.cell (blk_cells (HS.out.below HB1.out).blk).1.2.2.2.2.2
  have hlk : ∀ q : InW w1, (Instr.lookup 47 (.map mb) (.string k) false).run Tryz.prog q.val = .ok (.slice A0 n0 cc) q.val := fun q => by
    rw [← HVAL.out]; exact look_in (HS.out.below HB1.out).map k false q
  refine wp_region_below (W := w1) (by kernel_rfl) (by kernel_rfl) (Below.refl _ _) ?_
  repeat (go_big_quiet_step (fail))
  refine wpQuiet_nil ?_
  rintro _ ⟨q0, rfl⟩
  obtain ⟨wq, hbq⟩ := q0
  try dsimp only
  have HBQ : Hid (Below w.heap.size w wq) := HB1.out.trans (hbq.mono HB1.out.size)
  clear c3 c4 c5 hlk hbq
  go_wp2_with (first
    | (go_at_call 19; (with_reducible refine (HST.out _ HOW.out.hp).mono ?_); rintro e w3 ⟨rfl, rfl⟩)
    | (go_at_call 16; (with_reducible refine (HUS.out _ HBQ.out).mono ?_); rintro e w2 ⟨rfl, how⟩; have HOW := Lib.hid how; clear how))
  go_ret
  exact ⟨rfl, (Mv.of_below HS.out HBQ.out).trans (Mv.of_own (HS.out.below HBQ.out) HOW.out hkeep.out.1 hkeep.out.2.1 hkeep.out.2.2)⟩

set_option maxRecDepth 100000 in
set_option maxHeartbeats 2000000 in
/-- The file has a beginning of these bytes. -/
theorem write_put (w : World) (p : Nat) (s : S) (mb : Option Nat) (L : List Fi) (k : ByteArray) (A : Option Addr) (n c : Nat) (bs : List Int) (m : Nat) (h : StR w p s mb L) (hr : rdy s.d [k] = 0) (hf : ¬ s.room < s.used - ((bytL L k).length : Int) + n) (hn : n ≤ 1000000) (hbs : bs.length = n) (hm : useN s (1 + (n : Int)) = (m : Int) + 1)
    (hv : ∀ w', Off (own p mb L) w w' → BAt w' (.slice A n c) bs) :
    Calls Tryz.prog 5 #[.pointer (some ⟨p, 0, none⟩), .string k, .slice A n c] w fun e w' => e = .returned (.int .i64 (dwn (useS s (1 + (n : Int))))) ∧ ∃ mb' v', Mv w w' p mb L { useS s (1 + (n : Int)) with used := s.used + ((m : Int) - ((bytL L k).length : Int)) } mb' (putL L k (v', bs.take m)) := by
  have hmn : m ≤ n := by have := useN_le s (1 + n) h.left; have e : ((1 + n : Nat) : Int) = 1 + (n : Int) := by omega
                         rw [e] at this; omega
  have hks := (okN_of hr).2
  have hcap : n ≤ c := by obtain ⟨_, _, e, h3, _⟩ := hv w (Off.refl _ _); cases e; omega
  have hsl : ∀ W : World, (Instr.slice 22 (.slice A n c) none (some (.int .i64 (m : Int))) none).run Tryz.prog W = .ok (.slice A m c) W := slice_to A n c m (by omega)
  have hmin : (bs.take m).length = m := by rw [List.length_take]; omega
  have HMN := Lib.hid hmn
  have HV := Lib.hid hv
  have HMIN := Lib.hid hmin
  have HR := Lib.hid (ready_one h.blk k)
  rw [hr] at HR
  have HS := Lib.hid h
  have hroom := h.room
  have hused := h.used
  have hle := byt_used L k
  obtain ⟨A0, n0, cc, hval, hn0⟩ : ∃ A0 n0 cc, valL L k = .slice A0 n0 cc ∧ n0 = (bytL L k).length := by
    obtain ⟨A0, cc, e, _⟩ := BAt.of_own (val_row h.rows k); exact ⟨A0, _, cc, e, rfl⟩
  have HVAL := Lib.hid hval
  obtain ⟨x, hx⟩ : ∃ x, x = s.room := ⟨_, rfl⟩
  obtain ⟨u, hu⟩ : ∃ u, u = s.used := ⟨_, rfl⟩
  have hx0 : 0 ≤ x ∧ x ≤ 1048576 := by omega
  have hu0 : 0 ≤ u ∧ u ≤ 1048576 := by omega
  have hn1 : (0 : Int) ≤ (n0 : Int) ∧ (n0 : Int) ≤ u := by omega
  rw [← hx, ← hu, ← hn0] at hf
  obtain ⟨x0, x1⟩ := hx0
  obtain ⟨u0, u1⟩ := hu0
  obtain ⟨n00, n01⟩ := hn1
  have e0 : (0 : Int) ≤ (n : Int) := by omega
  have e1 : (n : Int) ≤ 1000000 := by omega
  have HX := Lib.hid hx
  have HU := Lib.hid hu
  have HN0 := Lib.hid hn0
  have huse : ∀ W, Below w.heap.size w W → Calls Tryz.prog 16 #[.pointer (some ⟨p, 0, none⟩), .int .i64 (1 + (n : Int))] W fun e w' => e = .returned (.int .i64 ((m : Int) + 1)) ∧ Own W w' p (useS s (1 + (n : Int))) mb := fun W hW => by
    rw [← hm]; exact use_any W p s mb (1 + (n : Int)) ((h.below hW).blk) (by omega) h.left
  have HUS := Lib.hid huse
  have hkeep := Lib.hid (useS_keeps s (1 + (n : Int)) (by omega) h.left)
  obtain ⟨s1, hs1⟩ : ∃ s1, s1 = useS s (1 + (n : Int)) := ⟨_, rfl⟩
  rw [← hs1] at HUS hkeep ⊢
  obtain ⟨d1, hd1⟩ : ∃ d1, d1 = dwn s1 := ⟨_, rfl⟩
  rw [← hd1]
  have hst : ∀ W mb', W.heap[p]? = some (blk { s1 with used := s.used + ((m : Int) - ((bytL L k).length : Int)) } mb') → Calls Tryz.prog 19 #[.pointer (some ⟨p, 0, none⟩)] W fun e w' => e = .returned (.int .i64 d1) ∧ W = w' := fun W mb' hW => by
    rw [hd1]; exact state_any W p { s1 with used := s.used + ((m : Int) - ((bytL L k).length : Int)) } mb' hW
  have HST := Lib.hid hst
  have m0 : (0 : Int) ≤ (m : Int) := by omega
  have m1 : (m : Int) ≤ (n : Int) := by omega
  have g1 : decide ((0 : Int) < (m : Int) + 1) = true := decide_eq_true (by omega)
  have hroomN : Hid (((usedL L : Int) - (bytL L k).length + (bs.take m).length) ≤ s.room) := by
    show _ ≤ _
    rw [hmin]; omega
  have hused0 : Hid (0 ≤ s.used ∧ s.used ≤ 4000000 ∧ n0 ≤ 4000000 ∧ m ≤ 4000000) := by
    show _ ∧ _
    omega
  have hstep : ∀ w2 w3 w5 A4 c4, StR w2 p s1 mb L → Below w2.heap.size w2 w3 → w3.ownsRow w2.heap.size 5 1 (.slice A4 m c4) (bs.take m).length (bv (bs.take m)) → PutTo w3 w5 p s1 mb L k (.slice A4 m c4) (bs.take m) m →
      ∃ mb' v', Mv w2 w5 p mb L { s1 with used := s.used + ((m : Int) - ((bytL L k).length : Int)) } mb' (putL L k (v', bs.take m)) := by
    intro w2 w3 w5 A4 c4 h2 hb3 ho hp
    have h3 := h2.below hb3
    have hp2 : PutTo w3 w5 p s1 mb L k (.slice A4 m c4) (bs.take m) (bs.take m).length := by rw [hmin]; exact hp
    obtain ⟨mb', v', hmv⟩ := put_step (w2 := w3) h2 (Off.of_below _ hb3) h3.blk h3.map (fun x hx _ => h3.rows x hx) (row_zero ho) (fun i hi => .inr (ho.lt i hi).1) rfl rfl h2.left (by rw [hkeep.out.2.1]; exact hroomN.out) hp2
    refine ⟨mb', v', ?_⟩
    rw [hmin, hkeep.out.1] at hmv; exact hmv
  have HSTEP := Lib.hid hstep
  clear h hr hx hu hroom hused hle hval hn0 huse hm hst hs1 hd1 hstep hmn hcap hmin hbs hv
  go_enter Tryz.func5, Tryz.ntmps5
  go_upto_region 4 with (go_at_call 15; refine HR.out.mono ?_; rintro e w1 ⟨rfl, hb1⟩; have HB1 := Lib.hid hb1; clear hb1)
  have c3 : ∀ q : InW w1, q.val.cell? ⟨p, 3, none⟩ = some (.int .i64 x) := fun q => q.cell (by rw [HX.out]; exact (blk_cells (HS.out.below HB1.out).blk).1.2.2.2.1)
  have c4 : ∀ q : InW w1, q.val.cell? ⟨p, 4, none⟩ = some (.int .i64 u) := fun q => q.cell (by rw [HU.out]; exact (blk_cells (HS.out.below HB1.out).blk).1.2.2.2.2.1)
  have c5 : ∀ q : InW w1, q.val.cell? ⟨p, 5, none⟩ = some (.map mb) := fun q => q.cell (blk_cells (HS.out.below HB1.out).blk).1.2.2.2.2.2
  have hlk : ∀ q : InW w1, (Instr.lookup 47 (.map mb) (.string k) false).run Tryz.prog q.val = .ok (.slice A0 n0 cc) q.val := fun q => by
    rw [← HVAL.out]; exact look_in (HS.out.below HB1.out).map k false q
  refine wp_region_below (W := w1) (by kernel_rfl) (by kernel_rfl) (Below.refl _ _) ?_
  repeat (go_big_quiet_step (fail))
  refine wpQuiet_nil ?_
  rintro _ ⟨q0, rfl⟩
  obtain ⟨wq, hbq⟩ := q0
  try dsimp only
  have HBQ : Hid (Below w.heap.size w wq) := HB1.out.trans (hbq.mono HB1.out.size)
  clear c3 c4 c5 hlk hbq
  go_upto_region 8 with (go_at_call 16; (with_reducible refine (HUS.out _ HBQ.out).mono ?_); rintro e w2 ⟨rfl, how⟩; have HOW := Lib.hid how; clear how)
  have HMV : Hid (Mv w w2 p mb L s1 mb L) := (Mv.of_below HS.out HBQ.out).trans (Mv.of_own (HS.out.below HBQ.out) HOW.out hkeep.out.1 hkeep.out.2.1 hkeep.out.2.2)
  have hcl := clone_any w2 (.slice A m c) (bs.take m) ((BAt.take (HV.out w2 HMV.out.off) m HMN.out).1) (by rw [HMIN.out]; omega)
  have HCL := Lib.hid hcl
  clear hcl
  have hput : ∀ w3 A4 c4, Below w2.heap.size w2 w3 → Calls Tryz.prog 17 #[.pointer (some ⟨p, 0, none⟩), .string k, .slice A4 m c4] w3 fun e w' => e = .returned (.tuple #[]) ∧ PutTo w3 w' p s1 mb L k (.slice A4 m c4) (bs.take m) m := by
    intro w3 A4 c4 hb
    have h3 := HMV.out.st.below hb
    refine put_any w3 p mb s1 L k A4 A0 m c4 n0 cc (bs.take m) h3.blk h3.map hks HVAL.out HN0.out ?_
    rw [hkeep.out.1]; exact hused0.out
  have HPUT := Lib.hid hput
  clear hput g1
  go_wp2_with (first
    | (go_at_call 19; (with_reducible refine (HST.out _ _ HMV5.out.st.blk).mono ?_); rintro e w6 ⟨rfl, rfl⟩)
    | (go_at_call 17; (with_reducible refine (HPUT.out _ _ _ HB3.out).mono ?_); rintro e w5 ⟨rfl, hp5⟩
       obtain ⟨mb', v', hmv5⟩ := HSTEP.out w2 w3 w5 A4 c4 HMV.out.st HB3.out HO3.out hp5
       have HMV5 := Lib.hid hmv5
       clear hp5 hmv5)
    | (go_at_call 18; (with_reducible refine HCL.out.mono ?_); rintro e w3 ⟨v3, rfl, ho3, hb3⟩
       obtain ⟨A4, c4, hv4, _⟩ := BAt.of_own ho3
       rw [HMIN.out] at hv4
       subst hv4
       have HO3 := Lib.hid ho3
       have HB3 := Lib.hid hb3
       clear ho3 hb3))
  go_ret
  exact ⟨rfl, mb', v', HMV.out.trans HMV5.out⟩
end Go.Proofs.YtklngdmpledgeaaGreat.Sr
