/-
  The law TableTells answers true: its walk. Conditions: the slice that came in, read up to its fiftieth row.
-/
import Derived.Test.YtflhpijcfiamgaaTOfl
import Derived.Test.YtflhpijcfiamgaaTSam3
import Derived.Test.YtflhpijcfiamgaaTFrmIi
import Derived.Test.YtflhpijcfiamgaaTKnown
namespace Go.Proofs.Ytflhpijcfiamgaa.Tb
open Go.RowKit Go.Sort Go.Shelf
open Ii (cells cells_len cells_get cells_one cells_append cells_cons cells_inv getL)
attribute [local go_sem] Oper.semAt_some

theorem slice_view {w : World} {base n : Nat} {e : TypeId} {v : Value} {xs : List Value} (h : w.ownsRow base e 2 v n xs) : ∃ A cap, v = .slice A n cap ∧ (0 < n → ∃ g, A = some ⟨g, 0, none⟩) := by
  rcases Go.Joins.ownsRow_forms h with ⟨rfl, rfl⟩ | ⟨g, cap, rfl⟩
  · exact ⟨none, 0, rfl, fun h => absurd h (by decide)⟩
  · exact ⟨_, cap, rfl, fun _ => ⟨g, rfl⟩⟩
theorem ownFrom_kept {β : Type} {S : Nat → Prop} {B : Nat} {w0 : World} (hB : w0.heap.size ≤ B) : OwnFrom B (fun (_ : β) W => Kept S w0 W) :=
  fun _ _ _ row hs hg hr => ⟨hg.os.trans hs.os, hg.tape.trans hs.tape, hg.output.trans hs.output, Nat.le_trans hs.size hg.size, fun k hk hn =>
    (hg.block k (Nat.lt_of_lt_of_le hk hs.size) (fun e => by have := (hr k e.symm).1; omega)).trans (hs.block k hk hn)⟩
/-- Of an append to a row whose box is older: all older blocks but the box are as they were. -/
theorem kept_app {w0 W w1 : World} {fb : Nat} {o : Obj} {row : Option Nat} {v : Value} (h : Kept (fun x => x = fb) w0 W) (hg : (W.alloc o).grownBy w1 row) (hr : ∀ k, row = some k → w0.heap.size ≤ k) : Kept (fun x => x = fb) w0 (w1.setCell ⟨fb, 0, none⟩ v) := by
  have h1 : Kept (fun x => x = fb) w0 w1 := ⟨hg.os.trans h.os, hg.tape.trans h.tape, hg.output.trans h.output, Nat.le_trans h.size (Nat.le_trans (by simp) hg.size), fun k hk hn =>
    (hg.block k (by have := h.size; simp; omega) (fun e => by have := hr k e.symm; omega)).trans ((Below.heap_alloc _ _ _ (Nat.lt_of_lt_of_le hk h.size)).trans (h.block k hk hn))⟩
  exact h1.trans (Kept.of_set w1 ⟨fb, 0, none⟩ v)

set_option maxRecDepth 100000 in
set_option maxHeartbeats 8000000 in
theorem law_tells (w : World) (A : Option Addr) (len cap n : Nat) (rs0 : List (Int × Int)) (k at_ st : Int) (hin : PairsIn w A len n rs0) :
    Calls Try.prog 4 #[.slice A len cap, .int .i64 k, .int .i64 at_, .int .i64 st] w fun e w' => e = .returned (.bool true) ∧ Below w.heap.size w w' := by
  have hm0 : 0 ≤ (IntKind.u64.wrap st).tmod 60 ∧ (IntKind.u64.wrap st).tmod 60 ≤ 59 := by
    have h1 : 0 ≤ IntKind.u64.wrap st := by rw [IntKind.wrap_u64]; omega
    rw [Int.tmod_eq_emod_of_nonneg h1]; omega
  obtain ⟨m, hm⟩ : ∃ m, (IntKind.u64.wrap st).tmod 60 = m := ⟨_, rfl⟩
  rw [hm] at hm0
  obtain ⟨sp, hsp⟩ : ∃ sp : Nat, (sp : Int) = 1 + m := ⟨(1 + m).toNat, by omega⟩
  have hwm : IntKind.i64.wrap m = m := by rw [IntKind.wrap_i64]; omega
  have hwk : IntKind.i64.wrap (1 + m) = (sp : Int) := by rw [IntKind.wrap_i64]; omega
  have hs1 : 1 ≤ sp := by omega
  have hs2 : sp ≤ 60 := by omega
  have HIN : Hid (PairsIn (w.alloc (.cells #[.int .i64 st] 3)) A len n rs0) := by
    obtain ⟨h1, h2, h3⟩ := hin
    refine ⟨h1, h2, fun h0 => ?_⟩
    obtain ⟨g, o, rfl, hg, hc⟩ := h3 h0
    have hW : Below w.heap.size w (w.alloc (.cells #[.int .i64 st] 3)) := (Below.refl _ _).alloc (Nat.le_refl _) _
    exact ⟨g, o, rfl, Nat.lt_of_lt_of_le hg hW.size, fun i r hr => ⟨(hW.cell (p := ⟨g, o + i * 2, none⟩) hg).trans (hc i r hr).1, (hW.cell (p := ⟨g, o + i * 2 + 1, none⟩) hg).trans (hc i r hr).2⟩⟩
  have HL : Hid ((putAll (rem1 rs0)).length ≤ 50) := by
    have h1 := hin.1
    have h2 := hin.2.1
    have h5 := len_putAll (rem1 rs0)
    rw [rem1_len] at h5
    show _ ≤ _
    omega
  obtain ⟨rs, hrs⟩ : ∃ rs, rs = putAll (rem1 rs0) := ⟨_, rfl⟩
  have AS : Hid (asc rs) := by rw [hrs]; exact asc_putAll _
  have hof := of_law _ A len cap n rs0 HIN.out
  rw [← hrs] at hof HL
  have HOF := Lib.hid hof
  clear hm0 hsp hin HIN hrs hof
  refine (callsIn_wide (n := 6)).1 ?_
  refine callsIn_of_wp_marks Try.func4 rfl trivial ?_ rfl
  simp only [Try.ntmps4, List.size_toArray, List.length_cons, List.length_nil, Nat.reduceAdd, Nat.reduceSub, Array.replicate_succ, Array.replicate_zero, List.push_toArray, List.append_toArray, List.nil_append, List.cons_append]
  have bs0 : Hid (Boxed (w.alloc (.cells #[.int .i64 st] 3)) w.heap.size 3 (.int .i64 st)) := Boxed.new _ _ _
  gi_wp2_with (first
    | (refine ⟨trivial, ?_⟩; gi_at_call 24; refine (callsIn_wide.2 (Ii.each_any (some ⟨tb, 0, none⟩) _)).mono ?_; rintro e w4 ⟨rfl, rfl⟩)
    | (refine ⟨trivial, ?_⟩; gi_at_call 23; refine (callsIn_wide.2 HOF.out).mono ?_; rintro e w1 ⟨tb, db, rfl, s1, k1⟩; have BS1 : Hid (Boxed w1 w.heap.size 3 (.int .i64 st)) := block_kept bs0.out k1))
  refine ⟨trivial, ?_⟩
  refine (callsIn_wide.2 (known_any w1)).mono ?_
  rintro e w2 ⟨rfl, k2⟩
  have BS2 : Hid (Boxed w2 w.heap.size 3 (.int .i64 st)) := block_kept BS1.out k2
  have cs2 := BS2.out.cell
  have fs2 := BS2.out.frozen
  gi_wp2_with (first
    | (refine ⟨trivial, ?_⟩; gi_at_call 24; refine (callsIn_wide.2 (Ii.each_any (some ⟨tb, 0, none⟩) _)).mono ?_; rintro e w4 ⟨rfl, rfl⟩))
  obtain ⟨i0, hi0, hz0, hz1_, hz2⟩ := info_parts Rf.rowI
  obtain ⟨W1, hW1⟩ : ∃ W1, W1 = w2.setCell ⟨w.heap.size, 0, none⟩ (.int .i64 (sp : Int)) := ⟨_, rfl⟩
  have ST1 : Hid (Ii.TabR W1 (some ⟨tb, 0, none⟩) rs ∧ ∃ dv, Rf.TabV (w.heap.size + 1) W1 db dv rs) := by
    obtain ⟨tv, dv, h1, h2⟩ := s1.below k2
    have hbase : (w.alloc (.cells #[.int .i64 st] 3)).heap.size = w.heap.size + 1 := by simp
    rw [hbase] at h1 h2
    have hk : Kept (fun x => x = w.heap.size) w2 W1 := by rw [hW1]; exact Kept.of_set w2 ⟨w.heap.size, 0, none⟩ _
    refine ⟨(h1.kept hk (fun e => by have := h1.1; omega) (fun g hg e => by have := (h1.2.2.lt g hg).1; omega)).read, dv, h2.kept hk (fun e => by have := h2.1; omega) (fun g hg e => by have := (h2.2.2.lt g hg).1; omega)⟩
  have BS : Hid (Boxed W1 w.heap.size 3 (.int .i64 (sp : Int))) := by
    rw [hW1]
    exact BS2.out.set _
  have KW : Hid (Below w.heap.size w W1) := by
    rw [hW1]
    have h1 : Below w.heap.size w w1 := ((Below.refl _ _).alloc (Nat.le_refl _) _).trans (k1.mono (by simp))
    exact (h1.trans (k2.mono h1.size)).setCell (p := ⟨w.heap.size, 0, none⟩) (Nat.le_refl _) _
  have zW : W1.heap.size = w2.heap.size := by rw [hW1]; simp [World.setCell]
  have zw : w.heap.size < W1.heap.size := BS.out.lt
  rw [← hW1]
  rw [← zW]
  clear hW1 s1 k1 k2 BS1 BS2 cs2 fs2 bs0 HOF zW
  obtain ⟨W0, hW0⟩ : ∃ W0, W0 = ((W1.alloc (.cells #[.slice none 0 0] 28)).alloc (.cells #[.slice none 0 0] 28)).alloc (.cells #[.pointer (some ⟨tb, 0, none⟩)] 23) := ⟨_, rfl⟩
  have b1 : Boxed W0 W1.heap.size 28 (.slice none 0 0) := by rw [hW0]; exact ((Boxed.new W1 _ _).alloc _).alloc _
  have b2 : Boxed W0 (W1.heap.size + 1) 28 (.slice none 0 0) := by
    rw [hW0]
    have := Boxed.new (W1.alloc (.cells #[.slice none 0 0] 28)) 28 (.slice none 0 0)
    rw [World.size_alloc] at this
    exact this.alloc _
  have b3 : W0.heap[W1.heap.size + 1 + 1]? = some (.cells #[.pointer (some ⟨tb, 0, none⟩)] 23 (0, 0)) := by
    rw [hW0]
    have := block_new ((W1.alloc (.cells #[.slice none 0 0] 28)).alloc (.cells #[.slice none 0 0] 28)) (.cells #[.pointer (some ⟨tb, 0, none⟩)] 23)
    simpa using this
  have hB0 : Below W1.heap.size W1 W0 := by
    rw [hW0]
    exact (((Below.refl _ _).alloc (Nat.le_refl _) _).alloc (by simp) _).alloc (by simp; omega) _
  have hsz : W0.heap.size = W1.heap.size + 1 + 1 + 1 := by rw [hW0]; simp
  rw [← hW0]
  clear hW0
  refine' wpIn_rangeFunc_ownG rfl (by omega) (gf := 47) (lb := #[.pointer (some ⟨W1.heap.size + 1 + 1, 0, none⟩)]) rfl trivial (enters_of Try.func47 (by kernel_rfl) rfl)
    (Ii.each_stops _ (by omega) (W1.heap.size + 1 + 1) W1 (some ⟨tb, 0, none⟩) rs ST1.out.1 (by have := HL.out; omega) W0 hB0 b3) belowK_t (belowK_b (by omega)) (Below.refl _ _) (fun _ => rfl)
    (fun pre W => ((∃ v, Boxed W W1.heap.size 28 v ∧ W.ownsRow W1.heap.size 53 2 v pre.length (cells pre) ∧ pre.length < sp) ∧ Boxed W (W1.heap.size + 1) 28 (.slice none 0 0)) ∧ Below W1.heap.size W1 W)
    (fun c pre W => ((∃ v, Boxed W W1.heap.size 28 v ∧ W.ownsRow W1.heap.size 53 2 v pre.length (cells pre) ∧ (pre.length = sp ∧ c = .exit 0)) ∧ Boxed W (W1.heap.size + 1) 28 (.slice none 0 0)) ∧ Below W1.heap.size W1 W)
    (OwnFrom.and (OwnFrom.and (Own.from (holdsRow_own W1.heap.size W1.heap.size 28 53 2 (fun pre : List (Int × Int) => pre.length) (fun pre => cells pre) (fun pre _ => pre.length < sp)) _) (Own.from (boxed_own _ _ _) _)) (ownFrom_below (Nat.le_refl _) (by omega)))
    (fun c => OwnFrom.and (OwnFrom.and (Own.from (holdsRow_own W1.heap.size W1.heap.size 28 53 2 (fun pre : List (Int × Int) => pre.length) (fun pre => cells pre) (fun pre _ => pre.length = sp ∧ c = .exit 0)) _) (Own.from (boxed_own _ _ _) _)) (ownFrom_below (Nat.le_refl _) (by omega)))
    ⟨⟨⟨_, b1, World.ownsRow_nil _ _ _ _, hs1⟩, b2⟩, hB0⟩ _ ?assign ?body ?done ?stop
  case assign =>
    intro l x W K hK
    gi_wp2
    exact hK
  case body =>
    rintro l pre x W ⟨⟨⟨v, hv, hrow, hlen⟩, hf⟩, hB⟩ hlt
    have hc := hv.cell
    have HB := Lib.hid hB
    have HV := Lib.hid hv
    have HF := Lib.hid hf
    have HROW := Lib.hid hrow
    have hz1' := hB.size
    clear hB hv hrow hf
    have hl50 := HL.out
    by_cases hst : pre.length + 1 = sp
    · have t1 : ((pre.length : Int) + 1 == (sp : Int)) = true := by simp; omega
      have t2 : (pre.length : Int) + 1 = (sp : Int) := by omega
      have HST := Lib.hid hst
      clear hst
      gi_wp2_with (gi_at_builtin; refine wpListIn_append_own _ rfl _ _ 28 rfl W1.heap.size 53 i0 _ 2 16 Try.underlying28 hi0 hz0 hz1_ hz2 rfl (by decide) _ _ _ rfl (HROW.out.alloc _) ⟨W.heap.size, 0, none⟩ 1 1 [.int .i64 x.1, .int .i64 x.2] rfl rfl (World.news_of_block (cs := #[.int .i64 x.1, .int .i64 x.2]) (t := 53) (fr := (0, 0)) (heap_alloc_new W _)) (by simp [Value.oneCell']) (by unfold maxLen; omega) (by omega) (by simp; omega) ?_; intro v' w1 hown' hgrow _; obtain ⟨g', cap', rfl⟩ := ownsRow_succ hown'; obtain ⟨hv1, hv2, hr2, hk2, hb2⟩ := HV.out.appended (by decide) HROW.out hz1' (Nat.le_refl _) hown' hgrow; have hc1 := hv1.cell; have hf1 := hv1.frozen; have hc2 := hv2.cell; have cs := (block_cell (block_kept BS.out (HB.out.trans hb2))).1)
      have hfb : Boxed (w1.setCell ⟨W1.heap.size, 0, none⟩ (.slice (some ⟨g', 0, none⟩) (pre.length + 1) cap')) (W1.heap.size + 1) 28 (.slice none 0 0) := block_set ((HF.out.alloc _).kept hgrow (HF.out.not_row (by decide) HROW.out)) (by show W1.heap.size + 1 ≠ W1.heap.size; omega) _
      have hrw : (w1.setCell ⟨W1.heap.size, 0, none⟩ (.slice (some ⟨g', 0, none⟩) (pre.length + 1) cap')).ownsRow W1.heap.size 53 2 (.slice (some ⟨g', 0, none⟩) (pre.length + 1) cap') (pre ++ [x]).length (cells (pre ++ [x])) := by
        rw [cells_append, List.length_append]
        exact hr2
      exact ⟨hk2.from _, ⟨⟨_, hv2, hrw, by rw [List.length_append]; exact HST.out, rfl⟩, hfb⟩, HB.out.trans hb2⟩
    · have t1 : ((pre.length : Int) + 1 == (sp : Int)) = false := by simp; omega
      have t2 : ¬ (pre.length : Int) + 1 = (sp : Int) := by omega
      have HST := Lib.hid hst
      clear hst
      gi_wp2_with (gi_at_builtin; refine wpListIn_append_own _ rfl _ _ 28 rfl W1.heap.size 53 i0 _ 2 16 Try.underlying28 hi0 hz0 hz1_ hz2 rfl (by decide) _ _ _ rfl (HROW.out.alloc _) ⟨W.heap.size, 0, none⟩ 1 1 [.int .i64 x.1, .int .i64 x.2] rfl rfl (World.news_of_block (cs := #[.int .i64 x.1, .int .i64 x.2]) (t := 53) (fr := (0, 0)) (heap_alloc_new W _)) (by simp [Value.oneCell']) (by unfold maxLen; omega) (by omega) (by simp; omega) ?_; intro v' w1 hown' hgrow _; obtain ⟨g', cap', rfl⟩ := ownsRow_succ hown'; obtain ⟨hv1, hv2, hr2, hk2, hb2⟩ := HV.out.appended (by decide) HROW.out hz1' (Nat.le_refl _) hown' hgrow; have hc1 := hv1.cell; have hf1 := hv1.frozen; have hc2 := hv2.cell; have cs := (block_cell (block_kept BS.out (HB.out.trans hb2))).1)
      have hfb : Boxed (w1.setCell ⟨W1.heap.size, 0, none⟩ (.slice (some ⟨g', 0, none⟩) (pre.length + 1) cap')) (W1.heap.size + 1) 28 (.slice none 0 0) := block_set ((HF.out.alloc _).kept hgrow (HF.out.not_row (by decide) HROW.out)) (by show W1.heap.size + 1 ≠ W1.heap.size; omega) _
      have hrw : (w1.setCell ⟨W1.heap.size, 0, none⟩ (.slice (some ⟨g', 0, none⟩) (pre.length + 1) cap')).ownsRow W1.heap.size 53 2 (.slice (some ⟨g', 0, none⟩) (pre.length + 1) cap') (pre ++ [x]).length (cells (pre ++ [x])) := by
        rw [cells_append, List.length_append]
        exact hr2
      exact ⟨hk2.from _, hb2, ⟨⟨_, hv2, hrw, by rw [List.length_append]; have := HST.out; simp; omega⟩, hfb⟩, HB.out.trans hb2⟩
  case' done =>
    rintro D ys W hD hys ⟨⟨⟨v, hv, hrow, hlen⟩, hf⟩, hB⟩ hK
    have PL : Hid (ys = rs.take sp) := by
      show _ = _
      rw [hys] at hlen ⊢
      rw [List.take_of_length_le (by omega)]
    clear hlen hys
  case' stop =>
    rintro D c ys W hD hys ⟨⟨⟨v, hv, hrow, hlen, rfl⟩, hf⟩, hB⟩ hK
    have PL : Hid (ys = rs.take sp) := by
      show _ = _
      rw [← hlen]
      exact List.prefix_iff_eq_take.1 hys
    clear hlen hys
  all_goals
    have HV := Lib.hid hv
    have HROW := Lib.hid hrow
    have HF := Lib.hid hf
    have HB := Lib.hid hB
    have HK := Lib.hid hK
    have hz1 := hB.size
    have hDW : D < W.heap.size := (Array.getElem?_eq_some_iff.1 hK).1
    clear hv hrow hf hB hK b1 b2 b3 hB0
    gi_wp2_with (refine ⟨trivial, ?_⟩; gi_at_call 25; refine (callsIn_wide.2 (Ii.from_any (some ⟨tb, 0, none⟩) k _)).mono ?_; rintro e w4 ⟨rfl, rfl⟩)
    obtain ⟨Wb, hWb⟩ : ∃ Wb, Wb = (W.alloc (.cells #[.pointer (some ⟨tb, 0, none⟩)] 23)).alloc (.cells #[.int .i64 k] 3) := ⟨_, rfl⟩
    have hBb : Below W.heap.size W Wb := by rw [hWb]; exact ((Below.refl _ _).alloc (Nat.le_refl _) _).alloc (by simp) _
    have q1 : Wb.heap[W.heap.size]? = some (.cells #[.pointer (some ⟨tb, 0, none⟩)] 23 (0, 0)) := by rw [hWb]; exact block_old (block_new _ _) _
    have q2 : Wb.heap[W.heap.size + 1]? = some (.cells #[.int .i64 k] 3 (0, 0)) := by
      rw [hWb]
      have := block_new (W.alloc (.cells #[.pointer (some ⟨tb, 0, none⟩)] 23)) (.cells #[.int .i64 k] 3)
      simpa using this
    have hsb : Wb.heap.size = W.heap.size + 1 + 1 := by rw [hWb]; simp
    have f0 : Boxed Wb (W1.heap.size + 1) 28 (.slice none 0 0) := block_kept HF.out hBb
    have HBB := Lib.hid hBb
    rw [← hWb]
    clear hWb hBb
    refine' wpIn_rangeFunc_ownG rfl (by omega) (gf := 49) (lb := #[.pointer (some ⟨W.heap.size, 0, none⟩), .pointer (some ⟨W.heap.size + 1, 0, none⟩)]) rfl trivial (enters_of Try.func49 (by kernel_rfl) rfl)
      (Ii.from_stops _ (by omega) W.heap.size W1 (some ⟨tb, 0, none⟩) k rs ST1.out.1 AS.out (by have := HL.out; omega) Wb (HB.out.trans (HBB.out.mono hz1)) q1 q2) belowK_t (belowK_b (by omega)) (Below.refl _ _) (fun _ => rfl)
      (fun pre X => (∃ u, Boxed X (W1.heap.size + 1) 28 u ∧ X.ownsRow Wb.heap.size 53 2 u pre.length (cells pre) ∧ True) ∧ Kept (fun x => x = W1.heap.size + 1) Wb X)
      (fun _ _ _ => False)
      (OwnFrom.and (Own.from (holdsRow_own Wb.heap.size (W1.heap.size + 1) 28 53 2 (fun pre : List (Int × Int) => pre.length) (fun pre => cells pre) (fun _ _ => True)) _) (ownFrom_kept (Nat.le_refl _)))
      (fun _ _ _ _ _ hs _ _ => hs)
      ⟨⟨_, f0, World.ownsRow_nil _ _ _ _, trivial⟩, Kept.refl _ _⟩ _ ?assign2 ?body2 ?done2 ?stop2
    case assign2 =>
      intro l x X K hK
      gi_wp2
      exact hK
    case body2 =>
      rintro l pre x X ⟨⟨u, hu, hru, _⟩, hKx⟩ hlt
      have hc := hu.cell
      have HU := Lib.hid hu
      have HRU := Lib.hid hru
      have HKX := Lib.hid hKx
      have hzx := hKx.size
      have hle : W1.heap.size ≤ Wb.heap.size := by omega
      have hfl : (fromL rs k).length ≤ 50 := by
        have := HL.out
        unfold fromL
        rw [List.length_drop]
        omega
      clear hu hru hKx
      gi_wp2_with (gi_at_builtin; refine wpListIn_append_own _ rfl _ _ 28 rfl Wb.heap.size 53 i0 _ 2 16 Try.underlying28 hi0 hz0 hz1_ hz2 rfl (by decide) _ _ _ rfl (HRU.out.alloc _) ⟨X.heap.size, 0, none⟩ 1 1 [.int .i64 x.1, .int .i64 x.2] rfl rfl (World.news_of_block (cs := #[.int .i64 x.1, .int .i64 x.2]) (t := 53) (fr := (0, 0)) (heap_alloc_new X _)) (by simp [Value.oneCell']) (by unfold maxLen; omega) (by omega) (by simp; omega) ?_; intro v' w1 hown' hgrow _; obtain ⟨g', cap', rfl⟩ := ownsRow_succ hown'; obtain ⟨hv1, hv2, _, hk2, hb2⟩ := HU.out.appended (by decide) (Go.Joins.ownsRow_le HRU.out hle) (Nat.le_trans hle hzx) (Nat.le_succ _) (Go.Joins.ownsRow_le hown' hle) hgrow; have hc1 := hv1.cell; have hf1 := hv1.frozen)
      refine ⟨hk2.from _, hb2, ⟨_, hv2, ?_, trivial⟩, kept_app HKX.out hgrow (fun j e => (HRU.out.lt j e).1)⟩
      rw [cells_append, List.length_append]
      exact hown'.kept (grownBy_setCell' w1 (W1.heap.size + 1) (.slice (some ⟨g', 0, none⟩) (pre.length + 1) cap')) (.inr (hv1.not_row (by decide) hown').symm)
    case stop2 =>
      rintro D c pre W _ _ h _
      exact h.elim
    case done2 =>
      rintro D2 ys2 X hD2 hys2 ⟨⟨u, hu, hru, _⟩, hKx⟩ hKd
      have nD : ¬ D = W1.heap.size + 1 := by omega
      have BG : Hid (Boxed X W1.heap.size 28 v) := hKx.heap (block_kept HV.out HBB.out) (by omega)
      have RG : Hid (X.ownsRow W1.heap.size 53 2 v ys.length (cells ys)) := own_keptS (Rf.own_same HROW.out HBB.out) hKx (fun g hg e => HF.out.not_row (e := 53) (by decide) HROW.out (by rw [hg, e]))
      have BF := Lib.hid hu
      have RF : Hid (Rf.RdR X u (fromL rs k)) := by
        rw [hys2] at hru
        exact Rf.RdR.of_own hru
      have RG2 : Hid (Rf.RdR X v ys) := Rf.RdR.of_own RG.out
      have hBX : Below W1.heap.size W1 X := (HB.out.trans (HBB.out.mono hz1)).trans (hKx.below (by omega) (fun j hj e => by omega))
      have KX := Lib.hid hBX
      have KD1 : Hid (X.heap[D]? = some (.deferred (some []))) := hKx.heap (block_kept HK.out HBB.out) nD
      have KD2 := Lib.hid hKd
      have BSX : Hid (Boxed X w.heap.size 3 (.int .i64 (sp : Int))) := (hBX.block w.heap.size zw).trans BS.out
      have TRX : Hid (Ii.TabR X (some ⟨tb, 0, none⟩) rs) := ST1.out.1.below hBX
      obtain ⟨dv, hdv⟩ := ST1.out.2
      obtain ⟨A3, c3, rfl, hA3⟩ := slice_view hdv.2.2
      have DVX : Hid (Rf.TabV (w.heap.size + 1) X db (.slice A3 rs.length c3) rs) := hdv.below hBX
      have zX := hBX.size
      have hDX : D < X.heap.size := (Array.getElem?_eq_some_iff.1 KD1.out).1
      have hDX2 : D2 < X.heap.size := (Array.getElem?_eq_some_iff.1 hKd).1
      have HA3 := Lib.hid hA3
      clear hu hru hKx hKd hdv hBX q1 q2 f0 hys2 hA3 nD
      have DV2 : Hid (∃ dvv, Rf.TabV (w.heap.size + 1) X db dvv rs) := ⟨_, DVX.out⟩
      have ldb := DVX.out.2.1.lt
      have cdb := DVX.out.2.1.cell
      rcases (show at_ < 0 ∨ (¬ at_ < 0 ∧ (rs.length : Int) ≤ at_) ∨ (¬ at_ < 0 ∧ ¬ (rs.length : Int) ≤ at_) by omega) with ha | ⟨hb, ha⟩ | ⟨hb, ha⟩
      case' inl =>
        have CA : Hid (Calls Try.prog 26 #[.pointer (some ⟨tb, 0, none⟩), .int .i64 at_] X fun e w' => e = .returned (.tuple #[.agg #[.int .i64 0, .int .i64 0], .bool false]) ∧ Below X.heap.size X w') := Ii.at_none X (some ⟨tb, 0, none⟩) rs at_ TRX.out (by have := HL.out; omega) (.inl ha)
        gi_wp2_with (refine ⟨trivial, ?_⟩; gi_at_call 26; refine (callsIn_wide.2 CA.out).mono ?_; rintro e X1 ⟨rfl, kx1⟩; have cd1 := (kx1.cell (p := ⟨db, 0, none⟩) ldb).trans cdb; have lx1 : db < X1.heap.size := Nat.lt_of_lt_of_le ldb kx1.size; have cd2 : ∀ o, (X1.alloc o).cell? ⟨db, 0, none⟩ = some (.slice A3 rs.length c3) := fun o => (((Below.refl _ X1).alloc (Nat.le_refl _) o).cell (p := ⟨db, 0, none⟩) lx1).trans cd1)
      case' inr.inl =>
        have CA : Hid (Calls Try.prog 26 #[.pointer (some ⟨tb, 0, none⟩), .int .i64 at_] X fun e w' => e = .returned (.tuple #[.agg #[.int .i64 0, .int .i64 0], .bool false]) ∧ Below X.heap.size X w') := Ii.at_none X (some ⟨tb, 0, none⟩) rs at_ TRX.out (by have := HL.out; omega) (.inr ha)
        gi_wp2_with (refine ⟨trivial, ?_⟩; gi_at_call 26; refine (callsIn_wide.2 CA.out).mono ?_; rintro e X1 ⟨rfl, kx1⟩; have cd1 := (kx1.cell (p := ⟨db, 0, none⟩) ldb).trans cdb; have lx1 : db < X1.heap.size := Nat.lt_of_lt_of_le ldb kx1.size; have cd2 : ∀ o, (X1.alloc o).cell? ⟨db, 0, none⟩ = some (.slice A3 rs.length c3) := fun o => (((Below.refl _ X1).alloc (Nat.le_refl _) o).cell (p := ⟨db, 0, none⟩) lx1).trans cd1)
      case' inr.inr =>
        obtain ⟨ai, rfl⟩ : ∃ ai : Nat, at_ = (ai : Int) := ⟨at_.toNat, by omega⟩
        have hai : ai < rs.length := by omega
        obtain ⟨r, hr⟩ : ∃ r, rs[ai]? = some r := ⟨_, List.getElem?_eq_getElem hai⟩
        have CA : Hid (Calls Try.prog 26 #[.pointer (some ⟨tb, 0, none⟩), .int .i64 (ai : Int)] X fun e w' => e = .returned (.tuple #[.agg #[.int .i64 r.1, .int .i64 r.2], .bool true]) ∧ Below X.heap.size X w') := Ii.at_some X (some ⟨tb, 0, none⟩) rs ai r TRX.out (by have := HL.out; omega) hr
        obtain ⟨g3, rfl⟩ := HA3.out (by omega)
        have hg3 := (DVX.out.2.2.lt g3 rfl).2
        have hcg := cells_get rs ai r hr
        have e1 : X.cell? ⟨g3, ai * 2, none⟩ = some (.int .i64 r.1) := (DVX.out.2.2.cellAt (ai * 2) (by omega)).trans hcg.1
        have e2 : X.cell? ⟨g3, ai * 2 + 1, none⟩ = some (.int .i64 r.2) := (DVX.out.2.2.cellAt (ai * 2 + 1) (by omega)).trans hcg.2
        have i1 : (0 : Int) ≤ (ai : Int) := by omega
        have i2 : (ai : Int) < (rs.length : Int) := by omega
        gi_wp2_with (refine ⟨trivial, ?_⟩; gi_at_call 26; refine (callsIn_wide.2 CA.out).mono ?_; rintro e X1 ⟨rfl, kx1⟩; have cd1 := (kx1.cell (p := ⟨db, 0, none⟩) ldb).trans cdb; have lx1 : db < X1.heap.size := Nat.lt_of_lt_of_le ldb kx1.size; have cd2 : ∀ o, (X1.alloc o).cell? ⟨db, 0, none⟩ = some (.slice (some ⟨g3, 0, none⟩) rs.length c3) := fun o => (((Below.refl _ X1).alloc (Nat.le_refl _) o).cell (p := ⟨db, 0, none⟩) lx1).trans cd1; have e3 := (kx1.cell (p := ⟨g3, ai * 2, none⟩) hg3).trans e1; have e4 := (kx1.cell (p := ⟨g3, ai * 2 + 1, none⟩) hg3).trans e2; have lx2 : g3 < X1.heap.size := Nat.lt_of_lt_of_le hg3 kx1.size; have e5 : ∀ o, (X1.alloc o).cell? ⟨g3, ai * 2, none⟩ = some (.int .i64 r.1) := fun o => (((Below.refl _ X1).alloc (Nat.le_refl _) o).cell (p := ⟨g3, ai * 2, none⟩) lx2).trans e3; have e6 : ∀ o, (X1.alloc o).cell? ⟨g3, ai * 2 + 1, none⟩ = some (.int .i64 r.2) := fun o => (((Below.refl _ X1).alloc (Nat.le_refl _) o).cell (p := ⟨g3, ai * 2 + 1, none⟩) lx2).trans e4)
      case' inl => have hx2 : Below X.heap.size X (X1.alloc (.cells #[.int .i64 0, .int .i64 0] 55)) := kx1.trans (((Below.refl _ X1).alloc (Nat.le_refl _) _).mono kx1.size)
      case' inr.inl => have hx2 : Below X.heap.size X (X1.alloc (.cells #[.int .i64 0, .int .i64 0] 55)) := kx1.trans (((Below.refl _ X1).alloc (Nat.le_refl _) _).mono kx1.size)
      case' inl => generalize X1.alloc (.cells #[.int .i64 0, .int .i64 0] 55) = X2 at hx2 ⊢
      case' inr.inl => generalize X1.alloc (.cells #[.int .i64 0, .int .i64 0] 55) = X2 at hx2 ⊢
      case' inr.inr =>
        have hx2' : Below X.heap.size X (X1.alloc (.cells #[.int .i64 r.1, .int .i64 r.2] 55)) := kx1.trans (((Below.refl _ X1).alloc (Nat.le_refl _) _).mono kx1.size)
        refine wpIn_wide.2 ?_
        go_quiet (fail)
        gi_wp2_with fail
        have hx2 := below_drewN hx2' nq
        generalize (X1.alloc (.cells #[.int .i64 r.1, .int .i64 r.2] 55)).drewN nq = X2 at hx2 ⊢
      all_goals
        have zx2 := hx2.size
        refine ⟨trivial, ?_⟩
        refine (callsIn_wide.2 (Ii.rows_any X2 (some ⟨tb, 0, none⟩) rs (TRX.out.below hx2) (by have := HL.out; omega))).mono ?_
        rintro e X3 ⟨vm, rfl, hom, hnm, kx3⟩
        obtain ⟨gm, cm, rfl⟩ := (Go.Joins.ownsRow_forms hom).resolve_left (fun h => absurd h.1 hnm)
        have H0 : Hid (∃ xs, X3.ownsRow X2.heap.size 55 2 (.slice (some ⟨gm, 0, none⟩) rs.length cm) rs.length xs ∧ Below X2.heap.size X2 X3) := ⟨_, hom, kx3⟩
        have hx2h := Lib.hid hx2
        obtain ⟨dvv, hdvv⟩ := DV2.out
        have DVV := Lib.hid hdvv
        have HLL := HL.out
        clear hom hnm kx3 hx2 kx1 cd1 cd2 cdb lx1 hdvv ha
        gi_wp2
        refine wpIn_wide.2 ?_
        go_loopg [20] rs.length (fun (gh : Nat) s20 wx => ∃ i : Nat, gh = rs.length - i ∧ i ≤ rs.length ∧ s20 = .int .i64 (i : Int) ∧ Hid (∃ xs, wx.ownsRow X2.heap.size 55 2 (.slice (some ⟨gm, 0, none⟩) rs.length cm) rs.length xs ∧ Below X2.heap.size X2 wx))
        case atStart => exact ⟨0, rfl, Nat.zero_le _, rfl, H0⟩
        case round =>
          clear H0
          obtain ⟨i, rfl, hi, rfl, hinv⟩ := hrel
          obtain ⟨xs, hxs, hbx⟩ := hinv.out
          by_cases hlt : i < rs.length
          · have t1 : (i : Int) < (rs.length : Int) := by omega
            have t2 : (0 : Int) ≤ (i : Int) := by omega
            have hxl : xs.length = rs.length * 2 := hxs.1
            obtain ⟨y, hy⟩ : ∃ y, xs[i * 2 + 1]? = some y := ⟨_, List.getElem?_eq_getElem (by omega)⟩
            have cc : wr.cell? ⟨gm, i * 2 + 1, none⟩ = some y := (hxs.cellAt (i * 2 + 1) (by omega)).trans hy
            have ff : wr.frozen? ⟨gm, i * 2 + 1, none⟩ = false := hxs.frozenAt _
            have NX : Hid (∃ xs, (wr.setCell ⟨gm, i * 2 + 1, none⟩ (.int .i64 (-1))).ownsRow X2.heap.size 55 2 (.slice (some ⟨gm, 0, none⟩) rs.length cm) rs.length xs ∧ Below X2.heap.size X2 (wr.setCell ⟨gm, i * 2 + 1, none⟩ (.int .i64 (-1)))) :=
              ⟨_, (hxs.stored (i * 2 + 1) (.int .i64 (-1))).1, hbx.setCell (p := ⟨gm, i * 2 + 1, none⟩) (hxs.lt gm rfl).1 _⟩
            have HLT := Lib.hid hlt
            clear hinv hxs hbx hy hxl hlt
            go_wp2
            go_roundg (rs.length - (i + 1))
            case measure => have := HLT.out; omega
            case rel => exact ⟨i + 1, rfl, HLT.out, by go_num, NX⟩
          · obtain rfl : i = rs.length := by omega
            have t0 : decide ((rs.length : Int) < (rs.length : Int)) = false := by simp
            have HX4 : Hid (Below X.heap.size X wr) := hx2h.out.trans (hbx.mono zx2)
            have zY := HX4.out.size
            clear hinv hxs hbx
            go_wp2_with fail
            gi_wp2_with fail
            have RGY : Hid (Rf.RdR wr v ys) := RG2.out.below HX4.out
            have RFY : Hid (Rf.RdR wr u (fromL rs k)) := RF.out.below HX4.out
            have TY : Hid (Ii.TabR wr (some ⟨tb, 0, none⟩) rs) := TRX.out.below HX4.out
            have DVY : Hid (Rf.TabV (w.heap.size + 1) wr db dvv rs) := DVV.out.below HX4.out
            have c1 := (block_cell (block_kept BG.out HX4.out)).1
            have c2 := (block_cell (block_kept BF.out HX4.out)).1
            have c3 := (block_cell (block_kept BSX.out HX4.out)).1
            have c4 := DVY.out.2.1.cell
            have l1 : W1.heap.size < wr.heap.size := (Array.getElem?_eq_some_iff.1 (block_kept BG.out HX4.out)).1
            have l2 : W1.heap.size + 1 < wr.heap.size := (Array.getElem?_eq_some_iff.1 (block_kept BF.out HX4.out)).1
            have l3 : w.heap.size < wr.heap.size := (Array.getElem?_eq_some_iff.1 (block_kept BSX.out HX4.out)).1
            have l4 := DVY.out.2.1.lt
            obtain ⟨q, hq⟩ : ∃ q, q = min sp rs.length := ⟨_, rfl⟩
            have hmin1 : min (sp : Int) (rs.length : Int) = (q : Int) := by rw [hq]; omega
            have hmin2 : min (rs.length : Int) (sp : Int) = (q : Int) := by rw [hq]; omega
            have hmin : (if (rs.length : Int) < (sp : Int) then (rs.length : Int) else (sp : Int)) = (q : Int) := by rw [hq]; split <;> omega
            have hpl : ys = rs.take q := by
              rw [PL.out, hq]
              by_cases h : sp ≤ rs.length
              · rw [Nat.min_eq_left h]
              · rw [Nat.min_eq_right (by omega), List.take_of_length_le (by omega), List.take_of_length_le (Nat.le_refl _)]
            obtain ⟨A4, c4v, rfl, v', hv4, hrun⟩ := Rf.rd_upto wr (w.heap.size + 1) dvv rs DVY.out.2.2 q (by omega)
            rw [← hpl] at hv4
            have RVY := Lib.hid hv4
            have hy : ys.length ≤ 1000 := by rw [hpl, List.length_take]; omega
            have hfl : (fromL rs k).length ≤ 1000 := by
              unfold fromL
              rw [List.length_drop]
              omega
            have HY := Lib.hid hy
            have HFL := Lib.hid hfl
            have KY : Hid (Below wr.heap.size wr wr.drew) := (Below.refl _ _).drew
            have d1 : wr.drew.cell? ⟨W1.heap.size, 0, none⟩ = some v := c1
            have d2 : wr.drew.cell? ⟨W1.heap.size + 1, 0, none⟩ = some u := c2
            have d3 : wr.drew.cell? ⟨w.heap.size, 0, none⟩ = some (.int .i64 (sp : Int)) := c3
            have d4 : wr.drew.cell? ⟨db, 0, none⟩ = some (.slice A4 rs.length c4v) := c4
            clear hy hfl hpl hq hv4
            refine wpIn_wide.2 ?_
            go_region_held3 (fun w' => w'.cell? ⟨W1.heap.size, 0, none⟩ = some v ∧ w'.cell? ⟨W1.heap.size + 1, 0, none⟩ = some u ∧ w'.cell? ⟨w.heap.size, 0, none⟩ = some (.int .i64 (sp : Int)) ∧ w'.cell? ⟨db, 0, none⟩ = some (.slice A4 rs.length c4v))
              (first
                | (exact ⟨d1, d2, d3, d4⟩)
                | go_keep)
              (first
                | (go_at_call 19; have q2 := Rf.RdR.of_own (DVY.out.below KY.out).2.2; (with_reducible refine (Rf.same_rd _ um (.slice A4 rs.length c4v) rs (Rf.RdR.of_own OM.out) q2 (by have := HL.out; omega)).mono ?_); rintro e Y7 ⟨rfl, kk⟩; have KY := Lib.hid (KY.out.trans (kk.mono KY.out.size)); clear kk; have d1 := (KY.out.cell (p := ⟨W1.heap.size, 0, none⟩) l1).trans c1; have d2 := (KY.out.cell (p := ⟨W1.heap.size + 1, 0, none⟩) l2).trans c2; have d3 := (KY.out.cell (p := ⟨w.heap.size, 0, none⟩) l3).trans c3; have d4 := (KY.out.cell (p := ⟨db, 0, none⟩) l4).trans c4)
                | (go_at_call 20; (with_reducible refine (Rf.lrows_any _ vr rs RVR.out (by have := HL.out; omega)).mono ?_); rintro e Y6 ⟨um, rfl, ho, kk⟩; have OM := Lib.hid ho; clear ho; have KY := Lib.hid (KY.out.trans (kk.mono KY.out.size)); clear kk; have d1 := (KY.out.cell (p := ⟨W1.heap.size, 0, none⟩) l1).trans c1; have d2 := (KY.out.cell (p := ⟨W1.heap.size + 1, 0, none⟩) l2).trans c2; have d3 := (KY.out.cell (p := ⟨w.heap.size, 0, none⟩) l3).trans c3; have d4 := (KY.out.cell (p := ⟨db, 0, none⟩) l4).trans c4)
                | (go_at_call 21; (with_reducible refine (Ii.rows_any _ (some ⟨tb, 0, none⟩) rs (TY.out.below KY.out) (by have := HL.out; omega)).mono ?_); rintro e Y5 ⟨vr, rfl, ho, _, kk⟩; have RVR := Lib.hid (Ii.RowsR.of_own ho); clear ho; have KY := Lib.hid (KY.out.trans (kk.mono KY.out.size)); clear kk; have d1 := (KY.out.cell (p := ⟨W1.heap.size, 0, none⟩) l1).trans c1; have d2 := (KY.out.cell (p := ⟨W1.heap.size + 1, 0, none⟩) l2).trans c2; have d3 := (KY.out.cell (p := ⟨w.heap.size, 0, none⟩) l3).trans c3; have d4 := (KY.out.cell (p := ⟨db, 0, none⟩) l4).trans c4)
                | (go_at_call 19; have q2 := RFY.out.below KY.out; (with_reducible refine (Rf.same_rd _ u uf (fromL rs k) q2 RUF.out HFL.out).mono ?_); rintro e Y4 ⟨rfl, kk⟩; have KY := Lib.hid (KY.out.trans (kk.mono KY.out.size)); clear kk; have d1 := (KY.out.cell (p := ⟨W1.heap.size, 0, none⟩) l1).trans c1; have d2 := (KY.out.cell (p := ⟨W1.heap.size + 1, 0, none⟩) l2).trans c2; have d3 := (KY.out.cell (p := ⟨w.heap.size, 0, none⟩) l3).trans c3; have d4 := (KY.out.cell (p := ⟨db, 0, none⟩) l4).trans c4)
                | (go_at_call 27; (with_reducible refine (Rf.rfrom_any (w.heap.size + 1) _ db (.slice A4 rs.length c4v) rs k (DVY.out.below KY.out) AS.out (by have := HL.out; omega)).mono ?_); rintro e Y3 ⟨uf, rfl, ho, kk⟩; have RUF := Lib.hid ho; clear ho; have KY := Lib.hid (KY.out.trans (kk.mono KY.out.size)); clear kk; have d1 := (KY.out.cell (p := ⟨W1.heap.size, 0, none⟩) l1).trans c1; have d2 := (KY.out.cell (p := ⟨W1.heap.size + 1, 0, none⟩) l2).trans c2; have d3 := (KY.out.cell (p := ⟨w.heap.size, 0, none⟩) l3).trans c3; have d4 := (KY.out.cell (p := ⟨db, 0, none⟩) l4).trans c4)
                | (go_at_call 19; have q1 := RGY.out.below KY.out; have q2 := RVY.out.below KY.out; (with_reducible refine (Rf.same_rd _ v v' ys q1 q2 HY.out).mono ?_); rintro e Y2 ⟨rfl, kk⟩; have KY := Lib.hid (KY.out.trans (kk.mono KY.out.size)); clear kk; have d1 := (KY.out.cell (p := ⟨W1.heap.size, 0, none⟩) l1).trans c1; have d2 := (KY.out.cell (p := ⟨W1.heap.size + 1, 0, none⟩) l2).trans c2; have d3 := (KY.out.cell (p := ⟨w.heap.size, 0, none⟩) l3).trans c3; have d4 := (KY.out.cell (p := ⟨db, 0, none⟩) l4).trans c4)
                | (go_at_call 22; (with_reducible refine (known_any _).mono ?_); rintro e Y1 ⟨rfl, kk⟩; have KY := Lib.hid (KY.out.trans (kk.mono KY.out.size)); clear kk; have d1 := (KY.out.cell (p := ⟨W1.heap.size, 0, none⟩) l1).trans c1; have d2 := (KY.out.cell (p := ⟨W1.heap.size + 1, 0, none⟩) l2).trans c2; have d3 := (KY.out.cell (p := ⟨w.heap.size, 0, none⟩) l3).trans c3; have d4 := (KY.out.cell (p := ⟨db, 0, none⟩) l4).trans c4))
            have zz := KY.out.size
            have hk2 : Y7.heap[D2]? = some (.deferred (some [])) := (KY.out.block D2 (by omega)).trans ((HX4.out.block D2 hDX2).trans KD2.out)
            have hk1 : Y7.heap[D]? = some (.deferred (some [])) := (KY.out.block D (by omega)).trans ((HX4.out.block D hDX).trans KD1.out)
            gi_wp2_with fail
            refine ⟨by simp, .inl ⟨_, _, rfl, run_takeDeferred hk2, ?_⟩⟩
            have hk3 : (Y7.putObj D2 (.deferred none)).heap[D]? = some (.deferred (some [])) := (World.putObj_heap_other (by omega)).trans hk1
            refine ⟨by simp, .inl ⟨_, _, rfl, run_takeDeferred hk3, ?_⟩⟩
            have e0 : Below w.heap.size w X := KW.out.trans (KX.out.mono KW.out.size)
            have e1 : Below w.heap.size w Y7 := (e0.trans (HX4.out.mono e0.size)).trans (KY.out.mono (Nat.le_trans e0.size zY))
            have e2 : Below w.heap.size Y7 (Y7.putObj D2 (.deferred none)) := belowK_b (w := w) (Nat.le_refl _) Y7 D2 _ _ (by omega) hk2 rfl rfl
            have e3 : Below w.heap.size (Y7.putObj D2 (.deferred none)) ((Y7.putObj D2 (.deferred none)).putObj D (.deferred none)) := belowK_b (w := w) (Nat.le_refl _) _ D _ _ (by omega) hk3 rfl rfl
            exact ⟨_, results_tmp rfl _ _ _, rfl, (e1.trans e2).trans e3⟩
end Go.Proofs.Ytflhpijcfiamgaa.Tb
