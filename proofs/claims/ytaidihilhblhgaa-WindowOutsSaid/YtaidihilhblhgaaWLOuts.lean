/-
  WindowOuts' law. Conditions: none.
-/
import Derived.Test.YtaidihilhblhgaaWKno
import Derived.Test.YtaidihilhblhgaaWAct
import Derived.Test.YtaidihilhblhgaaWRefO
import Derived.Deep.CutBlock
namespace Go.Proofs.Ytaidihilhblhgaa.Wi
open Go.RowKit Tb I

/-- What goes out and the reference's, all new since w0. -/
structure OD (w0 W : World) (bo : Nat) (so : Value) (a : Nat) (xs : List Int) (bd : Nat) (sd : Value) (a2 : Nat) (ys : List Int) : Prop where
  o : OutR W bo so a xs
  d : RefO W bd sd a2 ys
  sep : ∀ k, Own bo so k → ¬ Own bd sd k
  ao : ∀ k, Own bo so k → w0.heap.size ≤ k
  ad : ∀ k, Own bd sd k → w0.heap.size ≤ k
  bel : Below w0.heap.size w0 W
section
variable {w0 W W' : World} {bo bd a a' a2 a2' : Nat} {so so' sd sd' : Value} {xs xs' ys ys' : List Int}
theorem OD.stepO (h : OD w0 W bo so a xs bd sd a2 ys) (ho : OutR W' bo so' a' xs') (hk : Kept (Own bo so) W W') (hn : Nw W so so') : OD w0 W' bo so' a' xs' bd sd a2 ys :=
  ⟨ho, h.d.keep hk (fun k hk hs => h.sep k hs hk), sep_step h.sep hn h.d.lt, ab_step h.ao hn h.bel.size, h.ad, below_step h.bel hk h.ao⟩
theorem OD.stepD (h : OD w0 W bo so a xs bd sd a2 ys) (hd : RefO W' bd sd' a2' ys') (hk : Kept (Own bd sd) W W') (hn : Nw W sd sd') : OD w0 W' bo so a xs bd sd' a2' ys' :=
  ⟨h.o.keep hk (fun k hk hs => h.sep k hk hs), hd, fun k h1 h2 => sep_step (fun i h3 h4 => h.sep i h4 h3) hn h.o.lt k h2 h1, h.ao, ab_step h.ad hn h.bel.size, below_step h.bel hk h.ad⟩
theorem OD.keep {S : Nat → Prop} (h : OD w0 W bo so a xs bd sd a2 ys) (hk : Kept S W W') (h1 : ∀ k, S k → ¬ Own bo so k ∧ ¬ Own bd sd k ∧ w0.heap.size ≤ k) : OD w0 W' bo so a xs bd sd a2 ys :=
  ⟨h.o.keep hk (fun k hk hs => (h1 k hs).1 hk), h.d.keep hk (fun k hk hs => (h1 k hs).2.1 hk), h.sep, h.ao, h.ad, h.bel.trans (hk.below h.bel.size (fun k hk hS => by have := (h1 k hS).2.2; omega))⟩
theorem OD.below (h : OD w0 W bo so a xs bd sd a2 ys) (hb : Below W.heap.size W W') : OD w0 W' bo so a xs bd sd a2 ys :=
  h.keep (Kept.of_below (S := fun _ => False) hb) (fun _ h => h.elim)
theorem od_ack {ab : Nat} {k v : Value} {n : Int} (h : OD w0 W bo so a xs bd sd a2 ys) (hb : W.heap[ab]? = some (.cells #[k, .int .i64 n, v] 31 (0, 0))) (hne : ab ≠ bo) (x : Int) : Calls Try.prog 9 #[.pointer (some ⟨bo, 0, none⟩), .int .i64 x] W fun e w' => e = .returned (.int .i64 ((ackN a xs.length x : Nat) : Int)) ∧ OD w0 w' bo so (ackN a xs.length x) xs bd sd a2 ys ∧ w'.cell? ⟨ab, 1, none⟩ = some (.int .i64 n) :=
  (ack_any h.o x).mono fun _ _ ⟨h5, h6, h7⟩ => ⟨h5, h.stepO h6 (h7.mono fun _ _ e => .inl e) (Nw.refl _ _), cell_of_row _ _ _ _ _ _ (h7.heap hb hne)⟩
theorem od_new (w : World) : OD w ((w.alloc (.cells #[.slice none 0 0, .int .i64 0] 26)).alloc (.cells #[.slice none 0 0, .int .i64 0] 29)) w.heap.size (.slice none 0 0) 0 [] (w.heap.size + 1) (.slice none 0 0) 0 [] := by
  have hz : (w.alloc (.cells #[.slice none 0 0, .int .i64 0] 26)).heap.size = w.heap.size + 1 := by simp
  have h1 : RefO ((w.alloc (.cells #[.slice none 0 0, .int .i64 0] 26)).alloc (.cells #[.slice none 0 0, .int .i64 0] 29)) (w.heap.size + 1) (.slice none 0 0) 0 [] := by
    rw [← hz]
    exact ⟨Two.new _ _ _ _, World.ownsRow_nil _ _ _ _, Nat.le_refl _, Nat.zero_le _⟩
  refine ⟨(OutR.new w).below ((Below.refl _ _).alloc (Nat.le_refl _) _), h1, fun k h2 h3 => ?_, fun k h2 => ?_, fun k h2 => ?_, ((Below.refl _ _).alloc (Nat.le_refl _) _).alloc (by simp) _⟩
  · rcases h2 with h2 | h2
    · rcases h3 with h3 | h3
      · omega
      · cases h3
    · cases h2
  · rcases h2 with h2 | h2
    · omega
    · cases h2
  · rcases h2 with h2 | h2
    · omega
    · cases h2
end

set_option maxRecDepth 100000 in
set_option maxHeartbeats 4000000 in
theorem law_outs (w : World) (A : Option Addr) (n c : Nat) (cs : List AcW) (hA : ActsW w A n cs) :
    Calls Try.prog 3 #[.slice A n c] w fun e w' => e = .returned (.bool true) ∧ Below w.heap.size w w' := by
  have hnew := od_new w
  have HA := Lib.hid hA
  obtain ⟨N, hN⟩ : ∃ N, N = min n 60 := ⟨_, rfl⟩
  have HN := Lib.hid hN
  have hN2 : N ≤ 60 := by omega
  have hN3 : N ≤ n := by omega
  have HNW := Lib.hid hnew
  clear hN hnew hA
  go_enter Try.func3, Try.ntmps3
  go_wp2
  go_loopg [5] N (fun (gh : Nat) s5 wx => ∃ (i a : Nat) (so sd : Value) (xs : List Int), gh = N - i ∧ i ≤ N ∧ s5 = .int .i64 (i : Int) ∧ xs.length ≤ 20 * i ∧ Hid (OD w wx w.heap.size so a xs (w.heap.size + 1) sd a xs))
  case atStart => exact ⟨0, 0, _, _, [], rfl, Nat.zero_le _, rfl, Nat.zero_le _, HNW⟩
  case round =>
    obtain ⟨i, a, so, sd, xs, rfl, hi, rfl, hxl, HH⟩ := hrel
    clear HNW
    by_cases hlt : i < N
    · have t1 : (i : Int) < (n : Int) := by omega
      have t2 : (i : Int) < 60 := by omega
      have t3 : (0 : Int) ≤ (i : Int) := by omega
      obtain ⟨ac, hac⟩ : ∃ ac, cs[i]? = some ac := ⟨_, List.getElem?_eq_getElem (by rw [HA.out.1]; omega)⟩
      obtain ⟨hnb, hat, g, o, rfl, hg, k0, k1, k2⟩ := HA.out.2 i ac hac
      have c0 := (HH.out.bel.cell (p := ⟨g, o + i * 3, none⟩) hg).trans k0
      have c1 : wr.cell? ⟨g, o + i * 3 + 1, none⟩ = some (.int .i64 ac.n) := (HH.out.bel.cell (p := ⟨g, o + (i * 3 + 1), none⟩) hg).trans k1
      have c2 : wr.cell? ⟨g, o + i * 3 + 2, none⟩ = some (.slice ac.A ac.nb ac.cb) := (HH.out.bel.cell (p := ⟨g, o + (i * 3 + 2), none⟩) hg).trans k2
      have EM := Lib.hid (show (N - (i + 1) < N - i) by omega)
      clear k0 k1 k2 hac hi
      have hkr : 0 ≤ (IntKind.u64.wrap ac.k).tmod 3 ∧ (IntKind.u64.wrap ac.k).tmod 3 < 3 := by
        have h1 : 0 ≤ IntKind.u64.wrap ac.k := by rw [IntKind.wrap_u64]; omega
        rw [Int.tmod_eq_emod_of_nonneg h1]; omega
      obtain ⟨kk, hkk⟩ : ∃ kk, (IntKind.u64.wrap ac.k).tmod 3 = kk := ⟨_, rfl⟩
      rw [hkk] at hkr
      go_upto_block 2 with fail
      obtain ⟨WB, hWB⟩ : ∃ WB, WB = wr.alloc (.cells #[.int .i64 ac.k, .int .i64 ac.n, .slice ac.A ac.nb ac.cb] 31) := ⟨_, rfl⟩
      obtain ⟨ab, hab⟩ : ∃ ab, ab = wr.heap.size := ⟨_, rfl⟩
      have hbk : WB.heap[ab]? = some (.cells #[.int .i64 ac.k, .int .i64 ac.n, .slice ac.A ac.nb ac.cb] 31 (0, 0)) := by rw [hWB, hab]; exact block_new _ _
      have HB : Hid (OD w WB w.heap.size so a xs (w.heap.size + 1) sd a xs) := by
        show OD _ _ _ _ _ _ _ _ _ _
        rw [hWB]; exact HH.out.below ((Below.refl _ _).alloc (Nat.le_refl _) _)
      have HM : Hid (At WB (.slice ac.A ac.nb ac.cb) ac.l) := hat.below HB.out.bel
      have HBN : Hid (¬ Own w.heap.size so ab ∧ ¬ Own (w.heap.size + 1) sd ab) := by
        rw [hab]
        exact ⟨fun h => by have := HH.out.o.lt _ h; omega, fun h => by have := HH.out.d.lt _ h; omega⟩
      have HAB := Lib.hid hbk
      have HIN := Lib.hid hat
      rw [← hWB, ← hab]
      clear hWB hab hbk HH c0 c1 c2 hat hkk
      go_cut [7, 8] from 39 to 80 (fun s7 _ wx => ∃ (a : Nat) (so sd : Value) (xs : List Int), s7 = .bool true ∧ xs.length ≤ 20 * (i + 1) ∧ Hid (OD w wx w.heap.size so a xs (w.heap.size + 1) sd a xs))
      case first =>
        have x0 : WB.cell? ⟨ab, 0, none⟩ = some (.int .i64 ac.k) := cell_of_row _ _ _ _ _ _ HAB.out
        have x1 : WB.cell? ⟨ab, 1, none⟩ = some (.int .i64 ac.n) := cell_of_row _ _ _ _ _ _ HAB.out
        have x2 : WB.cell? ⟨ab, 2, none⟩ = some (.slice ac.A ac.nb ac.cb) := cell_of_row _ _ _ _ _ _ HAB.out
        by_cases q0 : kk = 0
        · subst q0
          obtain ⟨q, hq⟩ : ∃ q, q = min ac.nb 20 := ⟨_, rfl⟩
          have t1 : (if (20 : Int) < (ac.nb : Int) then (20 : Int) else (ac.nb : Int)) = (q : Int) := by split <;> omega
          have t2 : min (ac.nb : Int) 20 = (q : Int) := by omega
          have t3 : q ≤ ac.nb := by omega
          have t4 : q ≤ ac.cb := by
            obtain ⟨A', c', h1, h2, _⟩ := HM.out
            simp only [Value.slice.injEq] at h1
            omega
          have t5 : q ≤ 20 := by omega
          clear hq
          have hml : (ac.l.take q).length = q := by
            obtain ⟨A', c', h1, _, _⟩ := HM.out
            simp only [Value.slice.injEq] at h1
            rw [List.length_take]; omega
          have HAT : Hid (At w (.slice ac.A q ac.cb) (ac.l.take q)) := by
            have h1 := HIN.out.part 0 q (by have h2 := hml; rw [List.length_take] at h2; omega) ac.A (fun g o e _ => by simpa using e) ac.cb t4
            rw [List.drop_zero] at h1
            exact h1
          obtain ⟨m, hm⟩ : ∃ m, m = ac.l.take q := ⟨_, rfl⟩
          rw [← hm] at hml HAT
          obtain ⟨A1, c1, W1, hr, hown, hg1, hnw⟩ := app_any WB 0 sd xs HB.out.d.row _ m (HAT.out.below HB.out.bel) (by omega) (Nat.zero_le _)
          obtain ⟨hp1, hp2⟩ := HB.out.d.pushed hown hg1 hnw (by omega)
          have H2 := Lib.hid (HB.out.stepD hp1 hp2 hnw)
          have hb1 := HB.out.d.blk.grown hg1 HB.out.d.ne
          have c0 := HB.out.d.blk.c0
          have f0 := hb1.f0
          have d0 := hb1.c0
          have y0 := hp1.blk.c0
          obtain ⟨A0, k0, rfl, _⟩ := HB.out.d.form
          have hxn : xs.length + q ≤ 20 * (i + 1) := by omega
          have HPU : Hid (Calls Try.prog 7 #[.pointer (some ⟨w.heap.size, 0, none⟩), .slice ac.A q ac.cb] (W1.setCell ⟨w.heap.size + 1, 0, none⟩ (.slice A1 (xs.length + m.length) c1)).drew (fun e w' => e = .returned (.int .i64 ((xs.length + m.length : Nat) : Int)) ∧ ∃ so', OD w w' w.heap.size so' a (xs ++ m) (w.heap.size + 1) (.slice A1 (xs.length + m.length) c1) a (xs ++ m))) := by
            have h3 := H2.out.below (W' := (W1.setCell ⟨w.heap.size + 1, 0, none⟩ (.slice A1 (xs.length + m.length) c1)).drew) (Below.refl _ _).drew
            exact (push_any h3.o (HAT.out.below h3.bel) (by omega)).mono fun _ _ ⟨h4, so', h5, h6, h7⟩ => ⟨h4, so', h3.stepO h5 h6 h7⟩
          rw [hml] at hr H2 y0 HPU
          obtain ⟨z, hz⟩ : ∃ z, z = xs.length := ⟨_, rfl⟩
          have HLEN : Hid ((xs ++ m).length ≤ 20 * (i + 1)) := by show _ ≤ _; rw [List.length_append]; omega
          rw [← hz] at hr H2 y0 HPU c0 d0
          clear hz hml hm hown hg1 hnw hp1 hp2 hb1 hxn hxl HB HM HIN t3 x0 x1
          go_wp2_with (at_builtin; refine wpList_app_run _ rfl _ _ 24 rfl (.slice A0 z k0) (.slice ac.A q ac.cb) rfl rfl (.slice A1 (z + q) c1) W1 (hr _) ?_)
          go_region_held3 (fun w' => w'.cell? ⟨w.heap.size + 1, 0, none⟩ = some (.slice A1 (z + q) c1)) (first | exact y0 | exact y1)
            (first
              | (go_at_call 7; (with_reducible refine HPU.out.mono ?_); rintro e w3 ⟨rfl, so', h3⟩; have y1 := h3.d.blk.c0; have H3 := Lib.hid h3; clear h3))
          all_goals
            go_wp2
            go_meet
            exact ⟨a, _, _, _, rfl, HLEN.out, H3⟩
        · by_cases q1 : kk = 1
          · subst q1
            have HQ : Hid (Calls Try.prog 8 #[.pointer (some ⟨w.heap.size + 1, 0, none⟩), .int .i64 ac.n] WB (fun e w' => e = .returned (.tuple #[]) ∧ OD w w' w.heap.size so a xs (w.heap.size + 1) sd (ackN a xs.length ac.n) xs ∧ w'.heap[ab]? = some (.cells #[.int .i64 ac.k, .int .i64 ac.n, .slice ac.A ac.nb ac.cb] 31 (0, 0)))) :=
              (qack_any HB.out.d ac.n).mono fun _ _ ⟨h1, h2, h3⟩ => ⟨h1, HB.out.stepD h2 (h3.mono fun _ _ e => .inl e) (Nw.refl _ _), h3.heap HAB.out (fun e => HBN.out.2 (.inl e))⟩
            have HLEN : Hid (xs.length ≤ 20 * (i + 1)) := by show _ ≤ _; omega
            clear hxl
            go_wp2_with (go_at_call 8; (with_reducible refine HQ.out.mono ?_); rintro e w3 ⟨rfl, h3, h8⟩; have z1 : w3.cell? ⟨ab, 1, none⟩ = some (.int .i64 ac.n) := cell_of_row _ _ _ _ _ _ h8; have y1 := h3.d.blk.c1; have h4 := h3.below (W' := w3.drew) (Below.refl _ _).drew; have HK := Lib.hid (od_ack h4 (show w3.drew.heap[ab]? = _ from h8) (fun e => HBN.out.1 (.inl e)) ac.n); clear h3 h4 h8)
            obtain ⟨a2, ha2⟩ : ∃ a2, a2 = ackN a xs.length ac.n := ⟨_, rfl⟩
            rw [← ha2] at HK y1
            clear ha2
            go_region_held3 (fun w' => w'.cell? ⟨ab, 1, none⟩ = some (.int .i64 ac.n) ∧ w'.cell? ⟨w.heap.size + 1, 1, none⟩ = some (.int .i64 (a2 : Int))) (first | exact ⟨z1, y1⟩ | exact ⟨z2, y2⟩)
              (first
                | (go_at_call 9; (with_reducible refine HK.out.mono ?_); rintro e w4 ⟨rfl, h4, z2⟩; have y2 := h4.d.blk.c1; have H4 := Lib.hid h4; clear h4))
            all_goals
              go_wp2
              go_meet
              exact ⟨a2, _, _, _, rfl, HLEN.out, H4⟩
          · obtain rfl : kk = 2 := by omega
            have HQ : Hid (Calls Try.prog 10 #[.pointer (some ⟨w.heap.size, 0, none⟩)] WB (fun e w' => e = .returned (.tuple #[]) ∧ OD w w' w.heap.size so 0 xs (w.heap.size + 1) sd a xs)) :=
              (rewind_any HB.out.o).mono fun _ _ ⟨h1, h2, h3⟩ => ⟨h1, HB.out.stepO h2 (h3.mono fun _ _ e => .inl e) (Nw.refl _ _)⟩
            have HLEN : Hid (xs.length ≤ 20 * (i + 1)) := by show _ ≤ _; omega
            clear hxl
            go_wp2_with (go_at_call 10; (with_reducible refine HQ.out.mono ?_); rintro e w3 ⟨rfl, h3⟩; have y1 := h3.d.blk.c1; have y2 := h3.d.blk.f1; have HK : Hid (OD w (w3.setCell ⟨w.heap.size + 1, 1, none⟩ (.int .i64 0)) w.heap.size so 0 xs (w.heap.size + 1) sd 0 xs) := h3.stepD (h3.d.ack 0 (Nat.zero_le _)) ((Kept.of_set w3 ⟨w.heap.size + 1, 1, none⟩ _).mono fun _ _ e => .inl e) (Nw.refl _ _); clear h3)
            go_meet
            exact ⟨0, _, _, _, rfl, HLEN.out, HK⟩
      case rest =>
        clear HAB HB HM HIN HBN hxl
        obtain ⟨a, so, sd, xs, rfl, hxl, H0⟩ := hcut
        have hw := window_any H0.out.o
        obtain ⟨L, hL⟩ : ∃ L, L = (winL xs a).length := ⟨_, rfl⟩
        have hle := H0.out.o.le
        obtain ⟨z, hz⟩ : ∃ z, z = xs.length := ⟨_, rfl⟩
        have hza : a ≤ z := by omega
        have hz60 : z ≤ 2000 := by omega
        rw [← hL] at hw
        have HW := Lib.hid hw
        have HL := Lib.hid hL
        have hL16 : L ≤ 16 := by rw [hL, winL_len]; omega
        have HZ := Lib.hid hz
        clear hw hL hz hle
        go_upto_region 19 with (go_at_call 11; (with_reducible refine HW.out.mono ?_); rintro e w2 ⟨A2, c2, rfl, hrow, hb⟩; have H2 := Lib.hid (H0.out.below hb); have HR := Lib.hid hrow; have HB2 := Lib.hid hb; clear hrow hb)
        obtain ⟨A3, c3, hat3, hq⟩ := qwindow_any H2.out.d
        rw [← HL.out] at hat3 hq
        obtain ⟨As, ks, hsd, _⟩ := H2.out.d.form
        rw [← HZ.out] at hsd
        have y0 : ∀ p : InW w2, p.val.cell? ⟨w.heap.size + 1, 0, none⟩ = some (.slice As z ks) := fun p => p.cell (by rw [← hsd]; exact H2.out.d.blk.c0)
        have y1 : ∀ p : InW w2, p.val.cell? ⟨w.heap.size + 1, 1, none⟩ = some (.int .i64 (a : Int)) := fun p => p.cell H2.out.d.blk.c1
        have CQ : Hid (∀ p : InW w2, Calls Try.prog 13 #[.pointer (some ⟨w.heap.size + 1, 0, none⟩)] p.val fun e w' => e = .returned (.slice A3 L c3) ∧ ∃ q : InW w2, w' = q.val) := fun p => calls_in (hq p.val p.bel)
        have CS : Hid (∀ p : InW w2, Calls Try.prog 12 #[.slice A2 L c2, .slice A3 L c3] p.val fun e w' => e = .returned (.bool true) ∧ ∃ q : InW w2, w' = q.val) := fun p => calls_in (same_any p.val _ _ (winL xs a) ((At.of_own HR.out).below p.bel) (hat3.below p.bel) (by rw [← HL.out]; have := HL.out; rw [winL_len] at this; omega))
        have CL : Hid (∀ p : InW w2, Calls Try.prog 14 #[.pointer (some ⟨w.heap.size, 0, none⟩)] p.val fun e w' => e = .returned (.int .i64 (z : Int)) ∧ ∃ q : InW w2, w' = q.val) := fun p => (len_any (H2.out.o.below p.bel)).mono fun e w' ⟨h1, h2⟩ => ⟨by rw [h1, HZ.out], p, h2.symm⟩
        have CA : Hid (∀ p : InW w2, Calls Try.prog 15 #[.pointer (some ⟨w.heap.size, 0, none⟩)] p.val fun e w' => e = .returned (.int .i64 (a : Int)) ∧ ∃ q : InW w2, w' = q.val) := fun p => (acked_any (H2.out.o.below p.bel)).mono fun e w' ⟨h1, h2⟩ => ⟨h1, p, h2.symm⟩
        have CG : Hid (∀ p : InW w2, Calls Try.prog 16 #[.pointer (some ⟨w.heap.size, 0, none⟩)] p.val fun e w' => e = .returned (.int .i64 ((z - a : Nat) : Int)) ∧ ∃ q : InW w2, w' = q.val) := fun p => (waiting_any (H2.out.o.below p.bel)).mono fun e w' ⟨h1, h2⟩ => ⟨by rw [h1, HZ.out], p, h2.symm⟩
        have ez : IntKind.i64.wrap ((z : Int) - (a : Int)) = ((z - a : Nat) : Int) := by rw [IntKind.wrap_i64]; omega
        clear hsd hat3 hq HW
        refine wp_region_below (W := w2) (by kernel_rfl) (by kernel_rfl) (Below.refl _ _) ?_
        repeat (go_big_quiet_step ((first | (go_at_call 16; exact CG.out _) | (go_at_call 15; exact CA.out _) | (go_at_call 14; exact CL.out _) | (go_at_call 12; exact CS.out _) | (go_at_call 13; exact CQ.out _))))
        refine wpQuiet_nil ?_
        rintro _ ⟨pq, rfl⟩
        obtain ⟨wq, hbq⟩ := pq
        try dsimp only
        have H4 := Lib.hid (H2.out.below hbq)
        have HRC : Hid (0 < L → ∃ g cur, A2 = some ⟨g, 0, none⟩ ∧ wq.heap[g]? = some (.cells cur 3 (0, 0)) ∧ L ≤ cur.size ∧ ¬ Own w.heap.size so g ∧ ¬ Own (w.heap.size + 1) sd g ∧ w.heap.size ≤ g) := fun hp => by
          have h1 := own_below HR.out hbq
          rcases h1.2 with ⟨_, h2⟩ | ⟨g, cap, cur, h2, h3, h4, h5, _, h6, _⟩
          · have := HL.out; omega
          · simp only [Value.slice.injEq] at h2
            obtain ⟨h7, h8, _⟩ := h2
            refine ⟨g, cur, h7, h4, by omega, fun h => by have := H0.out.o.lt _ h; omega, fun h => by have := H0.out.d.lt _ h; omega, by have := H0.out.bel.size; omega⟩
        clear y0 y1 CQ CS CL CA CG HR HB2 H2 H0 HL HZ ez
        go_wp2
        go_loopg [11] L (fun (gh : Nat) s11 wx => ∃ k : Nat, gh = L - k ∧ k ≤ L ∧ s11 = .int .i64 (k : Int) ∧ Hid (OD w wx w.heap.size so a xs (w.heap.size + 1) sd a xs) ∧ Hid (0 < L → ∃ g cur, A2 = some ⟨g, 0, none⟩ ∧ wx.heap[g]? = some (.cells cur 3 (0, 0)) ∧ L ≤ cur.size ∧ ¬ Own w.heap.size so g ∧ ¬ Own (w.heap.size + 1) sd g ∧ w.heap.size ≤ g))
        case atStart => exact ⟨0, rfl, Nat.zero_le _, rfl, H4, HRC⟩
        case round =>
          obtain ⟨k, rfl, hk, rfl, H5, HC5⟩ := hrel
          clear H4 HRC
          by_cases hkl : k < L
          · have t5 : (k : Int) < (L : Int) := by omega
            have t4 : (0 : Int) ≤ (k : Int) := by omega
            have e4 : IntKind.i64.wrap ((k : Int) + 1) = ((k + 1 : Nat) : Int) := by rw [IntKind.wrap_i64]; omega
            obtain ⟨gg, cur, rfl, hgb, hcs, n1, n2, n3⟩ := HC5.out (by omega)
            obtain ⟨old, hold⟩ : ∃ old, cur[k]? = some old := ⟨_, Array.getElem?_eq_getElem (by omega)⟩
            have c5 : wr.cell? ⟨gg, k, none⟩ = some old := by rw [cell_of_row _ _ _ _ _ _ hgb, hold]
            have f5 : wr.frozen? ⟨gg, k, none⟩ = false := frozen_of_row _ _ _ _ _ hgb
            have H6 : Hid (OD w (wr.setCell ⟨gg, k, none⟩ (.int .i64 (-1))) w.heap.size so a xs (w.heap.size + 1) sd a xs) :=
              H5.out.keep (Kept.of_set wr ⟨gg, k, none⟩ _) (fun j e => by rw [show j = gg from e]; exact ⟨n1, n2, n3⟩)
            have HC6 : Hid (0 < L → ∃ g cur, some (⟨gg, 0, none⟩ : Addr) = some ⟨g, 0, none⟩ ∧ (wr.setCell ⟨gg, k, none⟩ (.int .i64 (-1))).heap[g]? = some (.cells cur 3 (0, 0)) ∧ L ≤ cur.size ∧ ¬ Own w.heap.size so g ∧ ¬ Own (w.heap.size + 1) sd g ∧ w.heap.size ≤ g) := fun _ =>
              ⟨gg, cur.setIfInBounds k (.int .i64 (-1)), rfl, heap_setCell_same wr gg k cur _ _ hgb, by simpa using hcs, n1, n2, n3⟩
            have EK := Lib.hid (show (L - (k + 1) < L - k) by omega)
            clear hgb hcs HC5 H5 n1 n2 n3 hk hold
            go_wp2
            go_roundg (L - (k + 1))
            case measure => exact EK.out
            case rel => exact ⟨k + 1, rfl, hkl, by go_num, H6, HC6⟩
          · obtain rfl : k = L := by omega
            clear hk
            have e9 : IntKind.i64.wrap ((i : Int) + 1) = ((i + 1 : Nat) : Int) := by rw [IntKind.wrap_i64]; omega
            go_wp2
            go_roundg (N - (i + 1))
            case measure => exact EM.out
            case rel => exact ⟨i + 1, a, so, sd, xs, rfl, hlt, by go_num, hxl, H5⟩
    · obtain rfl : i = N := by omega
      have hst : ¬ ((i : Int) < (n : Int)) ∨ ((i : Int) < (n : Int) ∧ ¬ ((i : Int) < 60)) := by have := HN.out; omega
      rcases hst with s1 | ⟨s1, s2⟩
      all_goals
        go_wp2_with (go_at_call 17; refine (known_any _).mono ?_; rintro e w2 ⟨rfl, k2⟩)
        go_ret
        exact ⟨rfl, HH.out.bel.trans (k2.mono HH.out.bel.size)⟩
end Go.Proofs.Ytaidihilhblhgaa.Wi
