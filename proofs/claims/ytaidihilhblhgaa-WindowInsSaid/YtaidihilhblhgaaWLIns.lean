/-
  WindowIns' law. Conditions: none.
-/
import Derived.Test.YtaidihilhblhgaaWRefJ
namespace Go.Proofs.Ytaidihilhblhgaa.Wi
open Go.RowKit Tb I

/-- What comes in and the reference's, all new since w0. -/
structure ID (w0 W : World) (bx : Nat) (sx : Value) (nx : Int) (l : List Rw) (bd : Nat) (sd : Value) (nx2 : Int) (l2 : List Rw) : Prop where
  i : InR W bx nx sx l
  d : RefI W bd nx2 sd l2
  sep : ∀ k, Own bx sx k → ¬ Own bd sd k
  ai : ∀ k, Own bx sx k → w0.heap.size ≤ k
  ad : ∀ k, Own bd sd k → w0.heap.size ≤ k
  bel : Below w0.heap.size w0 W
section
variable {w0 W W' : World} {bx bd : Nat} {sx sx' sd sd' : Value} {nx nx' nx2 nx2' : Int} {l l' l2 l2' : List Rw}
theorem ID.stepI (h : ID w0 W bx sx nx l bd sd nx2 l2) (hi : InR W' bx nx' sx' l') (hk : Kept (Own bx sx) W W') (hn : Nw W sx sx') : ID w0 W' bx sx' nx' l' bd sd nx2 l2 :=
  ⟨hi, h.d.keep hk (fun k hk hs => h.sep k hs hk), sep_step h.sep hn h.d.lt, ab_step h.ai hn h.bel.size, h.ad, below_step h.bel hk h.ai⟩
theorem ID.stepD (h : ID w0 W bx sx nx l bd sd nx2 l2) (hd : RefI W' bd nx2' sd' l2') (hk : Kept (Own bd sd) W W') (hn : Nw W sd sd') : ID w0 W' bx sx nx l bd sd' nx2' l2' :=
  ⟨h.i.keep hk (fun k hk hs => h.sep k hk hs), hd, fun k h1 h2 => sep_step (fun i h3 h4 => h.sep i h4 h3) hn h.i.lt k h2 h1, h.ai, ab_step h.ad hn h.bel.size, below_step h.bel hk h.ad⟩
theorem ID.below (h : ID w0 W bx sx nx l bd sd nx2 l2) (hb : Below W.heap.size W W') : ID w0 W' bx sx nx l bd sd nx2 l2 :=
  ⟨h.i.below hb, h.d.below hb, h.sep, h.ai, h.ad, h.bel.trans (hb.mono h.bel.size)⟩
/-- A new reference. -/
theorem ID.fresh (h : ID w0 W bx sx nx l bd sd nx2 l2) (n : Int) : ID w0 (W.alloc (.cells #[.int .i64 n, .slice none 0 0] 54)) bx sx nx l W.heap.size (.slice none 0 0) n [] := by
  have hb : Below W.heap.size W (W.alloc (.cells #[.int .i64 n, .slice none 0 0] 54)) := (Below.refl _ _).alloc (Nat.le_refl _) _
  refine ⟨h.i.below hb, ⟨Two.new _ _ _ _, World.ownsRow_nil _ _ _ _⟩, fun k h2 h3 => ?_, h.ai, fun k h2 => ?_, h.bel.alloc h.bel.size _⟩
  · have := h.i.lt k h2
    rcases h3 with h3 | h3
    · omega
    · cases h3
  · rcases h2 with h2 | h2
    · have := h.bel.size; omega
    · cases h2
theorem id_new (w : World) : ID w ((w.alloc (.cells #[.slice none 0 0, .int .i64 0] 50)).alloc (.cells #[.int .i64 0, .slice none 0 0] 54)) w.heap.size (.slice none 0 0) 0 [] (w.heap.size + 1) (.slice none 0 0) 0 [] := by
  have hz : (w.alloc (.cells #[.slice none 0 0, .int .i64 0] 50)).heap.size = w.heap.size + 1 := by simp
  have h1 : RefI ((w.alloc (.cells #[.slice none 0 0, .int .i64 0] 50)).alloc (.cells #[.int .i64 0, .slice none 0 0] 54)) (w.heap.size + 1) 0 (.slice none 0 0) [] := by
    rw [← hz]
    exact ⟨Two.new _ _ _ _, World.ownsRow_nil _ _ _ _⟩
  refine ⟨(InR.new w 0 (by decide)).below ((Below.refl _ _).alloc (Nat.le_refl _) _), h1, fun k h2 h3 => ?_, fun k h2 => ?_, fun k h2 => ?_, ((Below.refl _ _).alloc (Nat.le_refl _) _).alloc (by simp) _⟩
  · rcases h2 with h2 | h2
    · rcases h3 with h3 | h3
      · omega
      · cases h3
    · cases h2
  · rcases h2 with h2 | h2
    · omega
    · cases h2
  · rcases h2 with h2 | h2
    · omega
    · cases h2
/-- Both say the same. -/
abbrev IS (w0 W : World) (bx : Nat) (sx : Value) (nx : Int) (l : List Rw) (bd : Nat) (sd : Value) : Prop := ID w0 W bx sx nx l bd sd nx l
theorem is_startI (h : IS w0 W bx sx nx l bd sd) (x : Int) (h0 : 0 ≤ x) (h1 : x ≤ 1099511627776) : Calls Try.prog 18 #[.pointer (some ⟨bx, 0, none⟩), .int .i64 x] W fun e w' => e = .returned (.int .i64 0) ∧ ID w0 w' bx (.slice none 0 0) x [] bd sd nx l ∧ Kept (fun i => i = bx) W w' :=
  (start_ok h.i x h0 h1).mono fun _ _ ⟨h1, h2, h3⟩ => ⟨h1, h.stepI h2 (h3.mono fun _ _ e => .inl e) (fun i hi => by cases hi), h3⟩
theorem id_offerI (h : IS w0 W bx sx nx l bd sd) (n : Int) (hn : n ≤ 9223372036854775807) (x : Int) : Calls Try.prog 19 #[.pointer (some ⟨bx, 0, none⟩), .int .i64 n, .int .i64 x] W fun e w' => e = .returned (.int .i64 (offE nx l n)) ∧ ∃ sx', ID w0 w' bx sx' nx (offL nx l n x) bd sd nx l ∧ Kept (Own bx sx) W w' :=
  (offer_any h.i n hn x).mono fun _ _ ⟨h1, sx', h2, h3, h4⟩ => ⟨h1, sx', h.stepI h2 h3 h4, h3⟩
theorem id_offerD {m : List Rw} (h : ID w0 W bx sx nx m bd sd nx l) (ha : asc l) (hl : l.length ≤ 16) (n : Int) (hn : n ≤ 9223372036854775807) (x : Int) : Calls Try.prog 20 #[.pointer (some ⟨bd, 0, none⟩), .int .i64 n, .int .i64 x] W fun e w' => e = .returned (.int .i64 (offE nx l n)) ∧ ∃ sd', ID w0 w' bx sx nx m bd sd' nx (offL nx l n x) ∧ Kept (fun i => i = bd) W w' :=
  (roffer_any h.d ha hl h.i.nn.1 h.i.nn.2 n hn x).mono fun _ _ ⟨h1, sd', h2, h3, h4⟩ => ⟨h1, sd', h.stepD h2 (h3.mono fun _ _ e => .inl e) h4, h3⟩
theorem is_ready (h : IS w0 W bx sx nx l bd sd) : Calls Try.prog 23 #[.pointer (some ⟨bx, 0, none⟩)] W fun e w' => e = .returned (.tuple #[.int .i64 (rdy nx l), .bool (hasB l nx)]) ∧ IS w0 w' bx sx nx l bd sd :=
  (ready_any h.i).mono fun _ _ ⟨h1, h2⟩ => ⟨h1, h.below h2⟩
theorem is_rready (h : IS w0 W bx sx nx l bd sd) : Calls Try.prog 24 #[.pointer (some ⟨bd, 0, none⟩)] W fun e w' => e = .returned (.tuple #[.int .i64 (rdy nx l), .bool (hasB l nx)]) ∧ IS w0 w' bx sx nx l bd sd :=
  (rready_any h.d (fun r hr => (h.i.rng r hr).1)).mono fun _ _ ⟨h1, h2⟩ => ⟨h1, h.below h2⟩
end

set_option maxRecDepth 100000 in
set_option maxHeartbeats 4000000 in
theorem law_ins (w : World) (A : Option Addr) (n c : Nat) (cs : List AcW) (hA : ActsW w A n cs) :
    Calls Try.prog 4 #[.slice A n c] w fun e w' => e = .returned (.bool true) ∧ Below w.heap.size w w' := by
  have hnew := id_new w
  have HA := Lib.hid hA
  obtain ⟨N, hN⟩ : ∃ N, N = min n 100 := ⟨_, rfl⟩
  have HN := Lib.hid hN
  have hN2 : N ≤ 100 := by omega
  have hN3 : N ≤ n := by omega
  have HNW := Lib.hid hnew
  clear hN hnew hA
  go_enter Try.func4, Try.ntmps4
  go_wp2
  go_loopg [4, 5] N (fun (gh : Nat) s4 s5 wx => ∃ (i bd : Nat) (sx sd : Value) (nx : Int) (l : List Rw), gh = N - i ∧ i ≤ N ∧ s4 = .pointer (some ⟨bd, 0, none⟩) ∧ s5 = .int .i64 (i : Int) ∧ nx ≤ 1099511627776 + (i : Int) ∧ Hid (IS w wx w.heap.size sx nx l bd sd))
  case atStart => exact ⟨0, _, _, _, 0, [], rfl, Nat.zero_le _, rfl, rfl, by decide, HNW⟩
  case round =>
    obtain ⟨i, bd, sx, sd, nx, l, rfl, hi, rfl, rfl, hnx, HH⟩ := hrel
    clear HNW
    by_cases hlt : i < N
    · have t1 : (i : Int) < (n : Int) := by omega
      have t2 : (i : Int) < 100 := by omega
      have t3 : (0 : Int) ≤ (i : Int) := by omega
      obtain ⟨ac, hac⟩ : ∃ ac, cs[i]? = some ac := ⟨_, List.getElem?_eq_getElem (by rw [HA.out.1]; omega)⟩
      obtain ⟨hnb, _, g, o, rfl, hg, k0, k1, k2⟩ := HA.out.2 i ac hac
      have c0 := (HH.out.bel.cell (p := ⟨g, o + i * 3, none⟩) hg).trans k0
      have c1 : wr.cell? ⟨g, o + i * 3 + 1, none⟩ = some (.int .i64 ac.n) := (HH.out.bel.cell (p := ⟨g, o + (i * 3 + 1), none⟩) hg).trans k1
      have c2 : wr.cell? ⟨g, o + i * 3 + 2, none⟩ = some (.slice ac.A ac.nb ac.cb) := (HH.out.bel.cell (p := ⟨g, o + (i * 3 + 2), none⟩) hg).trans k2
      have EM := Lib.hid (show (N - (i + 1) < N - i) by omega)
      clear k0 k1 k2 hac hi
      have hkr : 0 ≤ (IntKind.u64.wrap ac.k).tmod 3 ∧ (IntKind.u64.wrap ac.k).tmod 3 < 3 := by
        have h1 : 0 ≤ IntKind.u64.wrap ac.k := by rw [IntKind.wrap_u64]; omega
        rw [Int.tmod_eq_emod_of_nonneg h1]; omega
      obtain ⟨kk, hkk⟩ : ∃ kk, (IntKind.u64.wrap ac.k).tmod 3 = kk := ⟨_, rfl⟩
      rw [hkk] at hkr
      go_upto_block 2 with fail
      obtain ⟨WB, hWB⟩ : ∃ WB, WB = wr.alloc (.cells #[.int .i64 ac.k, .int .i64 ac.n, .slice ac.A ac.nb ac.cb] 31) := ⟨_, rfl⟩
      obtain ⟨ab, hab⟩ : ∃ ab, ab = wr.heap.size := ⟨_, rfl⟩
      have hbk : WB.heap[ab]? = some (.cells #[.int .i64 ac.k, .int .i64 ac.n, .slice ac.A ac.nb ac.cb] 31 (0, 0)) := by rw [hWB, hab]; exact block_new _ _
      have HB : Hid (IS w WB w.heap.size sx nx l bd sd) := by
        show ID _ _ _ _ _ _ _ _ _ _
        rw [hWB]; exact HH.out.below ((Below.refl _ _).alloc (Nat.le_refl _) _)
      have HBN : Hid (¬ Own w.heap.size sx ab ∧ ¬ Own bd sd ab) := by
        rw [hab]
        exact ⟨fun h => by have := HH.out.i.lt _ h; omega, fun h => by have := HH.out.d.lt _ h; omega⟩
      have HAB := Lib.hid hbk
      rw [← hWB, ← hab]
      clear hWB hab hbk HH c0 c1 c2 hkk
      go_cut [4, 7, 8, 9, 10, 11, 12] from 39 to 91 (fun s4 s7 _ _ _ _ _ wx => ∃ (bd : Nat) (sx sd : Value) (nx : Int) (l : List Rw), s4 = .pointer (some ⟨bd, 0, none⟩) ∧ s7 = .bool true ∧ nx ≤ 1099511627776 + ((i + 1 : Nat) : Int) ∧ Hid (IS w wx w.heap.size sx nx l bd sd))
      case first =>
        have x0 : WB.cell? ⟨ab, 0, none⟩ = some (.int .i64 ac.k) := cell_of_row _ _ _ _ _ _ HAB.out
        have x1 : WB.cell? ⟨ab, 1, none⟩ = some (.int .i64 ac.n) := cell_of_row _ _ _ _ _ _ HAB.out
        by_cases q0 : kk = 0
        · subst q0
          by_cases b0 : ac.n < 0 ∨ 1099511627776 < ac.n
          · have HS := Lib.hid (start_bad WB w.heap.size ac.n b0)
            rcases (show ac.n < 0 ∨ (¬ ac.n < 0 ∧ 1099511627776 < ac.n) by omega) with b1 | ⟨b1, b2⟩
            all_goals
              clear b0
              go_wp2_with (go_at_call 18; (with_reducible refine HS.out.mono ?_); rintro e w3 ⟨rfl, rfl⟩)
              go_meet
              exact ⟨bd, sx, sd, nx, l, rfl, rfl, by omega, HB⟩
          · have b1 : ¬ ac.n < 0 := by omega
            have b2 : ¬ 1099511627776 < ac.n := by omega
            have HS := Lib.hid (is_startI HB.out ac.n (by omega) (by omega))
            have b3 : ac.n ≤ 1099511627776 + ((i + 1 : Nat) : Int) := by omega
            clear b0
            go_wp2_with (go_at_call 18; (with_reducible refine HS.out.mono ?_); rintro e w3 ⟨rfl, h3, h4⟩; have z1 : w3.cell? ⟨ab, 1, none⟩ = some (.int .i64 ac.n) := cell_of_row _ _ _ _ _ _ (h4.heap HAB.out (fun e => HBN.out.1 (.inl e))); have H5 := Lib.hid (h3.fresh ac.n); clear h3 h4)
            go_meet
            exact ⟨_, _, _, ac.n, [], rfl, rfl, b3, H5⟩
        · by_cases q1 : kk = 1
          · subst q1
            have hnx1 : nx ≤ 1099511627776 + ((i + 1 : Nat) : Int) := by omega
            obtain ⟨E, hE⟩ : ∃ E, E = offE nx l ac.n := ⟨_, rfl⟩
            have hO := id_offerI (HB.out.below (W' := WB.drew) (Below.refl _ _).drew) ac.n hnb.2 (i : Int)
            rw [← hE] at hO
            have HO := Lib.hid hO
            have HD : Hid (∀ W1 sx1, ID w W1 w.heap.size sx1 nx (offL nx l ac.n (i : Int)) bd sd nx l → Calls Try.prog 20 #[.pointer (some ⟨bd, 0, none⟩), .int .i64 ac.n, .int .i64 (i : Int)] W1 fun e w' => e = .returned (.int .i64 E) ∧ ∃ sd', ID w w' w.heap.size sx1 nx (offL nx l ac.n (i : Int)) bd sd' nx (offL nx l ac.n (i : Int)) ∧ Kept (fun i => i = bd) W1 w') := fun W1 sx1 h => by
              rw [hE]
              exact id_offerD h HB.out.i.asc HB.out.i.few ac.n hnb.2 (i : Int)
            have HK1 : Hid (∀ W1, Kept (Own w.heap.size sx) WB.drew W1 → W1.heap[ab]? = some (.cells #[.int .i64 ac.k, .int .i64 ac.n, .slice ac.A ac.nb ac.cb] 31 (0, 0))) := fun W1 hk => hk.heap (show WB.drew.heap[ab]? = _ from HAB.out) HBN.out.1
            clear hO hE hnx
            go_wp2_with fail
            go_region_held3 (fun w' => w'.cell? ⟨ab, 1, none⟩ = some (.int .i64 ac.n)) (first | exact x1 | exact z1 | exact z2)
              (first
                | (go_at_call 20; (with_reducible refine HDD.out.mono ?_); rintro e w4 ⟨rfl, sd4, h5, h6⟩; have z2 : w4.cell? ⟨ab, 1, none⟩ = some (.int .i64 ac.n) := cell_of_row _ _ _ _ _ _ (h6.heap HB3.out (fun e => HBN.out.2 (.inl e))); have H5 := Lib.hid h5; clear h5 h6)
                | (go_at_call 19; (with_reducible refine HO.out.mono ?_); rintro e w3 ⟨rfl, sx3, h3, h4⟩; have hb3 := HK1.out _ h4; have z1 : w3.cell? ⟨ab, 1, none⟩ = some (.int .i64 ac.n) := cell_of_row _ _ _ _ _ _ hb3; have HB3 := Lib.hid hb3; have HDD := Lib.hid (HD.out _ _ h3); clear h3 h4 hb3))
            all_goals
              go_wp2
              go_meet
              exact ⟨_, _, _, nx, _, rfl, rfl, hnx1, H5⟩
          · obtain rfl : kk = 2 := by omega
            have hrg : ∀ r ∈ l, nx ≤ r.1 := fun r hr => (HB.out.i.rng r hr).1
            have hnx1 : nx ≤ 1099511627776 + ((i + 1 : Nat) : Int) := by omega
            have hnx2 : nx + 1 ≤ 1099511627776 + ((i + 1 : Nat) : Int) := by omega
            cases hh : hasB l nx
            · have HP := Lib.hid (pop_no HB.out.i hh)
              have HR := Lib.hid (fun W1 (hb : Below WB.heap.size WB W1) => rpop_no (HB.out.below hb).d hrg hh)
              clear hrg hh hnx
              go_wp2_with (first
                | (go_at_call 21; (with_reducible refine HP.out.mono ?_); rintro e w3 ⟨rfl, hb3⟩; have HRR := Lib.hid (HR.out _ hb3); have HB3 := Lib.hid hb3; clear hb3)
                | (go_at_call 22; (with_reducible refine HRR.out.mono ?_); rintro e w4 ⟨rfl, hb4⟩; have H5 := Lib.hid ((HB.out.below HB3.out).below hb4); clear hb4))
              go_meet
              exact ⟨bd, sx, sd, nx, l, rfl, rfl, hnx1, H5⟩
            · have HP : Hid (Calls Try.prog 21 #[.pointer (some ⟨w.heap.size, 0, none⟩)] WB fun e w' => e = .returned (.tuple #[.int .i64 (rdy nx l), .bool true]) ∧ ∃ sx', ID w w' w.heap.size sx' (nx + 1) (dropL l nx) bd sd nx l) := (pop_yes HB.out.i hh (by omega)).mono fun _ _ ⟨h1, sx', h2, h3, h4⟩ => ⟨h1, sx', HB.out.stepI h2 h3 h4⟩
              have HR : Hid (∀ W1 sx1, ID w W1 w.heap.size sx1 (nx + 1) (dropL l nx) bd sd nx l → Calls Try.prog 22 #[.pointer (some ⟨bd, 0, none⟩)] W1 fun e w' => e = .returned (.tuple #[.int .i64 (rdy nx l), .bool true]) ∧ ∃ sd', IS w w' w.heap.size sx1 (nx + 1) (dropL l nx) bd sd') := fun W1 sx1 h =>
                (rpop_yes h.d hrg HB.out.i.few hh HB.out.i.nn.1 (by omega)).mono fun _ _ ⟨h1, sd', h2, h3, h4⟩ => ⟨h1, sd', h.stepD h2 (h3.mono fun _ _ e => .inl e) h4⟩
              obtain ⟨y, hy⟩ : ∃ y, y = rdy nx l := ⟨_, rfl⟩
              rw [← hy] at HP HR
              clear hrg hh hnx hy
              go_wp2_with (first
                | (go_at_call 21; (with_reducible refine HP.out.mono ?_); rintro e w3 ⟨rfl, sx3, h3⟩; have HRR := Lib.hid (HR.out _ _ h3); clear h3)
                | (go_at_call 22; (with_reducible refine HRR.out.mono ?_); rintro e w4 ⟨rfl, sd4, h5⟩; have H5 := Lib.hid h5; clear h5))
              go_meet
              exact ⟨bd, _, _, nx + 1, _, rfl, rfl, hnx2, H5⟩
      case rest =>
        clear HAB HB HBN hnx
        obtain ⟨bd, sx, sd, nx, l, rfl, rfl, hnx, H0⟩ := hcut
        have HR1 := Lib.hid (is_ready H0.out)
        have HR2 : Hid (∀ W1, IS w W1 w.heap.size sx nx l bd sd → Calls Try.prog 24 #[.pointer (some ⟨bd, 0, none⟩)] W1 fun e w' => e = .returned (.tuple #[.int .i64 (rdy nx l), .bool (hasB l nx)]) ∧ IS w w' w.heap.size sx nx l bd sd) := fun W1 h => is_rready h
        obtain ⟨y, hy⟩ : ∃ y, y = rdy nx l := ⟨_, rfl⟩
        obtain ⟨hb, hhb⟩ : ∃ hb, hb = hasB l nx := ⟨_, rfl⟩
        rw [← hy, ← hhb] at HR1 HR2
        obtain ⟨z, hz⟩ : ∃ z, z = l.length := ⟨_, rfl⟩
        have HZ := Lib.hid hz
        have hz16 : z ≤ 16 := by rw [hz]; exact H0.out.i.few
        clear hy hhb hz H0
        have e5 : (y == y) = true := by simp
        have e6 : (hb == hb) = true := by simp
        go_upto_region 22 with (first
          | (go_at_call 24; (with_reducible refine HRR.out.mono ?_); rintro e w4 ⟨rfl, h5⟩; have H4 := Lib.hid h5; clear h5)
          | (go_at_call 23; (with_reducible refine HR1.out.mono ?_); rintro e w3 ⟨rfl, h3⟩; have HRR := Lib.hid (HR2.out _ h3); clear h3))
        have H5 := Lib.hid (H4.out.below (W' := w4.drew) (Below.refl _ _).drew)
        have y0 : w4.cell? ⟨bd, 0, none⟩ = some (.int .i64 nx) := H4.out.d.blk.c0
        have HNX := Lib.hid (next_any H5.out.i)
        have HKX : Hid (∀ W1, IS w W1 w.heap.size sx nx l bd sd → Calls Try.prog 26 #[.pointer (some ⟨w.heap.size, 0, none⟩)] W1 fun e w' => ∃ A c, e = .returned (.slice A z c) ∧ At w' (.slice A z c) (keys l) ∧ IS w w' w.heap.size sx nx l bd sd ∧ w'.cell? ⟨bd, 0, none⟩ = some (.int .i64 nx)) := fun W1 h => by
          have h1 := kept_any h.i
          rw [← HZ.out] at h1
          exact h1.mono fun _ w' ⟨A, c, h2, h3, h4⟩ => ⟨A, c, h2, At.of_own (by unfold rowOf; rw [keys_len, ← HZ.out]; unfold rowOf at h3; rw [keys_len, ← HZ.out] at h3; exact h3), h.below h4, (h.below h4).d.blk.c0⟩
        have HQX : Hid (∀ W1 A5 c5, At W1 (.slice A5 z c5) (keys l) → IS w W1 w.heap.size sx nx l bd sd → Calls Try.prog 27 #[.pointer (some ⟨bd, 0, none⟩)] W1 fun e w' => ∃ A c, e = .returned (.slice A z c) ∧ (At w' (.slice A z c) (keys l) ∧ At w' (.slice A5 z c5) (keys l)) ∧ IS w w' w.heap.size sx nx l bd sd ∧ w'.cell? ⟨bd, 0, none⟩ = some (.int .i64 nx)) := fun W1 A5 c5 ha h => by
          have h1 := rkept_any h.d (by rw [← HZ.out]; exact hz16)
          rw [← HZ.out] at h1
          exact h1.mono fun _ w' ⟨A, c, h2, h3, h4⟩ => ⟨A, c, h2, ⟨h3, ha.below h4⟩, h.below h4, (h.below h4).d.blk.c0⟩
        have HSX : Hid (∀ W1 u v, At W1 u (keys l) → At W1 v (keys l) → IS w W1 w.heap.size sx nx l bd sd → Calls Try.prog 12 #[u, v] W1 fun e w' => e = .returned (.bool true) ∧ IS w w' w.heap.size sx nx l bd sd ∧ w'.cell? ⟨bd, 0, none⟩ = some (.int .i64 nx)) := fun W1 u v hu hv h =>
          (same_any W1 u v (keys l) hu hv (by rw [keys_len, ← HZ.out]; omega)).mono fun _ w' ⟨h2, h4⟩ => ⟨h2, h.below h4, (h.below h4).d.blk.c0⟩
        clear HZ HR1 HR2 HRR
        go_region_held3 (fun w' => w'.cell? ⟨bd, 0, none⟩ = some (.int .i64 nx)) (first | exact y0 | exact y5 | exact y6 | exact y7)
          (first
            | (go_at_call 12; (with_reducible refine HSS.out.mono ?_); rintro e w7 ⟨rfl, h8, y7⟩; have H7 := Lib.hid h8; clear h8)
            | (go_at_call 27; (with_reducible refine HQQ.out.mono ?_); rintro e w6 ⟨A6, c6, rfl, ⟨ha6, ha5⟩, h8, y6⟩; have HSS := Lib.hid (HSX.out _ _ _ ha5 ha6 h8); clear ha6 ha5 h8)
            | (go_at_call 26; (with_reducible refine HKK.out.mono ?_); rintro e w5 ⟨A5, c5, rfl, ha5, h8, y5⟩; have HQQ := Lib.hid (HQX.out _ _ _ ha5 h8); clear ha5 h8)
            | (go_at_call 25; (with_reducible refine HNX.out.mono ?_); rintro e w8 ⟨rfl, rfl⟩; have HKK := Lib.hid (HKX.out _ H5.out)))
        all_goals
          have e9 : IntKind.i64.wrap ((i : Int) + 1) = ((i + 1 : Nat) : Int) := by rw [IntKind.wrap_i64]; omega
          go_wp2
          go_roundg (N - (i + 1))
          case measure => exact EM.out
          case rel => exact ⟨i + 1, bd, sx, sd, nx, l, rfl, hlt, rfl, by go_num, hnx, H7⟩
    · obtain rfl : i = N := by omega
      have hst : ¬ ((i : Int) < (n : Int)) ∨ ((i : Int) < (n : Int) ∧ ¬ ((i : Int) < 100)) := by have := HN.out; omega
      rcases hst with s1 | ⟨s1, s2⟩
      all_goals
        go_wp2_with (go_at_call 17; refine (known_any _).mono ?_; rintro e w2 ⟨rfl, k2⟩)
        go_ret
        exact ⟨rfl, HH.out.bel.trans (k2.mono HH.out.bel.size)⟩
end Go.Proofs.Ytaidihilhblhgaa.Wi
