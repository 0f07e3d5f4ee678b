/-
  SnapLong's law. Conditions: none.
-/
import Derived.Test.YtklngdmpledgeaaPLng0
import Derived.Test.YtklngdmpledgeaaSBytes
import Derived.ProofKit
import Derived.OpenShut
import Derived.ChangeOld
import Derived.Lib.SmallJoins
import Derived.ChangeMaps5
import Derived.Test.YtklngdmpledgeaaPL3
namespace Go.Proofs.Ytklngdmpledgeaa.Sp
open Go.RowKit Fr Sr
attribute [local go_sem] Oper.semAt_some

set_option maxRecDepth 100000 in
set_option maxHeartbeats 8000000 in
theorem law_long (w : World) (n0 r0 : Int) :
    Calls Try.prog 13 #[.int .i64 n0, .int .i64 r0] w fun e w' => e = .returned (.bool true) ∧ Below w.heap.size w w' := by
  have hu : 0 ≤ (IntKind.u64.wrap n0).tmod 20 ∧ (IntKind.u64.wrap n0).tmod 20 ≤ 19 := by
    have h1 : 0 ≤ IntKind.u64.wrap n0 := by rw [IntKind.wrap_u64]; omega
    rw [Int.tmod_eq_emod_of_nonneg h1]; omega
  have hv : 0 ≤ (IntKind.u64.wrap r0).tmod 20 ∧ (IntKind.u64.wrap r0).tmod 20 ≤ 19 := by
    have h1 : 0 ≤ IntKind.u64.wrap r0 := by rw [IntKind.wrap_u64]; omega
    rw [Int.tmod_eq_emod_of_nonneg h1]; omega
  obtain ⟨k, hk2⟩ : ∃ k : Nat, (IntKind.u64.wrap n0).tmod 20 = (k : Int) := ⟨((IntKind.u64.wrap n0).tmod 20).toNat, by omega⟩
  obtain ⟨r, hr2⟩ : ∃ r : Nat, (IntKind.u64.wrap r0).tmod 20 = (r : Int) := ⟨((IntKind.u64.wrap r0).tmod 20).toNat, by omega⟩
  rw [hk2] at hu
  rw [hr2] at hv
  obtain ⟨k0, k1⟩ := hu
  obtain ⟨r1, r2⟩ := hv
  obtain ⟨n, hn⟩ : ∃ n, n = 1048556 + k := ⟨_, rfl⟩
  obtain ⟨m1, hm1⟩ : ∃ m, m = n + 1 := ⟨_, rfl⟩
  obtain ⟨m4, hm4⟩ : ∃ m, m = n + 4 := ⟨_, rfl⟩
  obtain ⟨m12, hm12⟩ : ∃ m, m = n + 12 := ⟨_, rfl⟩
  have hw0 : IntKind.i64.wrap (1048556 + (k : Int)) = (n : Int) := by rw [IntKind.wrap_i64]; omega
  have hw1 : IntKind.i64.wrap ((n : Int) + 1) = (m1 : Int) := by rw [IntKind.wrap_i64]; omega
  have hw2 : IntKind.i64.wrap ((m1 : Int) + 3) = (m4 : Int) := by rw [IntKind.wrap_i64]; omega
  have hw3 : IntKind.i64.wrap ((m4 : Int) + 8) = (m12 : Int) := by rw [IntKind.wrap_i64]; omega
  have HN : Hid (16384 ≤ n ∧ n < 2000000 ∧ m12 = n + 12) := ⟨by omega, by omega, hm12⟩
  have mk1 := mkB n (by omega)
  have mk2 : ∀ W : World, (Instr.makeSlice 60 (.int .i64 10001) (.int .i64 10001)).run Try.prog W = .ok (.slice (some ⟨W.heap.size, 0, none⟩) 10001 10001) (W.alloc (.cells (madeCells #[.slice none 0 0] 10001) 32)) := mkR 10001 (by decide)
  have mk3 : ∀ W : World, (Instr.makeSlice 60 (.int .i64 10000) (.int .i64 10000)).run Try.prog W = .ok (.slice (some ⟨W.heap.size, 0, none⟩) 10000 10000) (W.alloc (.cells (madeCells #[.slice none 0 0] 10000) 32)) := mkR 10000 (by decide)
  have kc := fun (w : World) (C : Array Value) (n c : Nat) => Lib.run_convert_bytes_const (P := Try.prog) w 32 5 C n c Try.underlying32 Try.underlying5
  clear hn hm1 hm4 hm12
  by_cases tl : (1048576 : Int) < (m12 : Int)
  · by_cases tr : (13 : Int) ≤ (r : Int)
    · go_enter Try.func13, Try.ntmps13
      go_wp2_with (first
        | (go_at_call 59; (with_reducible refine (save_nil _).mono ?_); rintro e w11 ⟨rfl, hb11⟩; have HB11 := Lib.hid (HB10.out.trans (hb11.mono HB10.out.size)); clear hb11)
        | (go_at_call 56; (with_reducible refine (z_size w9 n (-1) HN.out.1 HN.out.2.1 (by have := HN.out.2.2; rw [if_neg (by omega)])).mono ?_); rintro e w10 ⟨rfl, hb10⟩; have HB10 := Lib.hid (HB9.out.trans (hb10.mono HB9.out.size)); clear hb10)
        | (go_at_call 54; (with_reducible refine (known_any _).mono ?_); rintro e w9 ⟨rfl, hb9⟩; have HB9 := Lib.hid (HB8.out.trans (hb9.mono HB8.out.size)); clear hb9)
        | (go_at_call 51; (with_reducible refine (nil_encN w7).mono ?_); rintro e w8 ⟨A8, q8, c8, rfl, hb8⟩; have HB8 := Lib.hid (HB7.out.trans (hb8.mono HB7.out.size)); clear hb8)
        | (go_at_call 51; (with_reducible refine (nil_encM w6).mono ?_); rintro e w7 ⟨A7, q7, c7, rfl, hb7⟩; have HB7 := Lib.hid (HB6.out.trans (hb7.mono HB6.out.size)); clear hb7)
        | (go_at_call 58; (with_reducible refine (load_nil _).mono ?_); rintro e w6 ⟨rfl, hb6⟩; have HB6 := Lib.hid (HB5.out.trans (hb6.mono HB5.out.size)); clear hb6)
        | (go_at_call 59; (with_reducible refine (abc_save (r := r) (G := 0) HST4.out (by rw [if_pos (by omega)])).mono ?_); rintro e w5 ⟨rfl, hb5⟩; have HB5 := Lib.hid (HB3.out.trans (hb5.mono HB3.out.size)); clear hb5)
        | (go_at_call 14; (with_reducible refine (c_new w3 (r : Int) (by omega) (by omega)).mono ?_); rintro e w4 ⟨rfl, hst4⟩; have HST4 := Lib.hid hst4; clear hst4)
        | (go_at_call 51; (with_reducible refine (z_enc w n 2 HN.out.1 HN.out.2.1 (by have := HN.out.2.2; rw [if_neg (by omega)])).mono ?_); rintro e w3 ⟨A3, q3, c3, rfl, hb3⟩; have HB3 := Lib.hid hb3; clear hb3))
      go_ret
      exact ⟨rfl, HB11.out⟩
    · have te : decide ((13 : Int) ≤ (r : Int)) = false := decide_eq_false tr
      go_enter Try.func13, Try.ntmps13
      go_wp2_with (first
        | (go_at_call 59; (with_reducible refine (save_nil _).mono ?_); rintro e w11 ⟨rfl, hb11⟩; have HB11 := Lib.hid (HB10.out.trans (hb11.mono HB10.out.size)); clear hb11)
        | (go_at_call 56; (with_reducible refine (z_size w9 n (-1) HN.out.1 HN.out.2.1 (by have := HN.out.2.2; rw [if_neg (by omega)])).mono ?_); rintro e w10 ⟨rfl, hb10⟩; have HB10 := Lib.hid (HB9.out.trans (hb10.mono HB9.out.size)); clear hb10)
        | (go_at_call 54; (with_reducible refine (known_any _).mono ?_); rintro e w9 ⟨rfl, hb9⟩; have HB9 := Lib.hid (HB8.out.trans (hb9.mono HB8.out.size)); clear hb9)
        | (go_at_call 51; (with_reducible refine (nil_encN w7).mono ?_); rintro e w8 ⟨A8, q8, c8, rfl, hb8⟩; have HB8 := Lib.hid (HB7.out.trans (hb8.mono HB7.out.size)); clear hb8)
        | (go_at_call 51; (with_reducible refine (nil_encM w6).mono ?_); rintro e w7 ⟨A7, q7, c7, rfl, hb7⟩; have HB7 := Lib.hid (HB6.out.trans (hb7.mono HB6.out.size)); clear hb7)
        | (go_at_call 58; (with_reducible refine (load_nil _).mono ?_); rintro e w6 ⟨rfl, hb6⟩; have HB6 := Lib.hid (HB5.out.trans (hb6.mono HB5.out.size)); clear hb6)
        | (go_at_call 59; (with_reducible refine (abc_save (r := r) (G := 7) HST4.out (by rw [if_neg (by omega)])).mono ?_); rintro e w5 ⟨rfl, hb5⟩; have HB5 := Lib.hid (HB3.out.trans (hb5.mono HB3.out.size)); clear hb5)
        | (go_at_call 14; (with_reducible refine (c_new w3 (r : Int) (by omega) (by omega)).mono ?_); rintro e w4 ⟨rfl, hst4⟩; have HST4 := Lib.hid hst4; clear hst4)
        | (go_at_call 51; (with_reducible refine (z_enc w n 2 HN.out.1 HN.out.2.1 (by have := HN.out.2.2; rw [if_neg (by omega)])).mono ?_); rintro e w3 ⟨A3, q3, c3, rfl, hb3⟩; have HB3 := Lib.hid hb3; clear hb3))
      go_ret
      exact ⟨rfl, HB11.out⟩
  · by_cases tr : (13 : Int) ≤ (r : Int)
    · have td : decide ((1048576 : Int) < (m12 : Int)) = false := decide_eq_false tl
      go_enter Try.func13, Try.ntmps13
      go_wp2_with (first
        | (go_at_call 59; (with_reducible refine (save_nil _).mono ?_); rintro e w11 ⟨rfl, hb11⟩; have HB11 := Lib.hid (HB10.out.trans (hb11.mono HB10.out.size)); clear hb11)
        | (go_at_call 56; (with_reducible refine (z_size w9 n (m12 : Int) HN.out.1 HN.out.2.1 (by have := HN.out.2.2; rw [if_pos (by omega), this])).mono ?_); rintro e w10 ⟨rfl, hb10⟩; have HB10 := Lib.hid (HB9.out.trans (hb10.mono HB9.out.size)); clear hb10)
        | (go_at_call 54; (with_reducible refine (known_any _).mono ?_); rintro e w9 ⟨rfl, hb9⟩; have HB9 := Lib.hid (HB8.out.trans (hb9.mono HB8.out.size)); clear hb9)
        | (go_at_call 51; (with_reducible refine (nil_encN w7).mono ?_); rintro e w8 ⟨A8, q8, c8, rfl, hb8⟩; have HB8 := Lib.hid (HB7.out.trans (hb8.mono HB7.out.size)); clear hb8)
        | (go_at_call 51; (with_reducible refine (nil_encM w6).mono ?_); rintro e w7 ⟨A7, q7, c7, rfl, hb7⟩; have HB7 := Lib.hid (HB6.out.trans (hb7.mono HB6.out.size)); clear hb7)
        | (go_at_call 58; (with_reducible refine (load_nil _).mono ?_); rintro e w6 ⟨rfl, hb6⟩; have HB6 := Lib.hid (HB5.out.trans (hb6.mono HB5.out.size)); clear hb6)
        | (go_at_call 59; (with_reducible refine (abc_save (r := r) (G := 0) HST4.out (by rw [if_pos (by omega)])).mono ?_); rintro e w5 ⟨rfl, hb5⟩; have HB5 := Lib.hid (HB3.out.trans (hb5.mono HB3.out.size)); clear hb5)
        | (go_at_call 14; (with_reducible refine (c_new w3 (r : Int) (by omega) (by omega)).mono ?_); rintro e w4 ⟨rfl, hst4⟩; have HST4 := Lib.hid hst4; clear hst4)
        | (go_at_call 51; (with_reducible refine (z_enc w n 0 HN.out.1 HN.out.2.1 (by have := HN.out.2.2; rw [if_pos (by omega)])).mono ?_); rintro e w3 ⟨A3, q3, c3, rfl, hb3⟩; have HB3 := Lib.hid hb3; clear hb3))
      go_ret
      exact ⟨rfl, HB11.out⟩
    · have td : decide ((1048576 : Int) < (m12 : Int)) = false := decide_eq_false tl
      have te : decide ((13 : Int) ≤ (r : Int)) = false := decide_eq_false tr
      go_enter Try.func13, Try.ntmps13
      go_wp2_with (first
        | (go_at_call 59; (with_reducible refine (save_nil _).mono ?_); rintro e w11 ⟨rfl, hb11⟩; have HB11 := Lib.hid (HB10.out.trans (hb11.mono HB10.out.size)); clear hb11)
        | (go_at_call 56; (with_reducible refine (z_size w9 n (m12 : Int) HN.out.1 HN.out.2.1 (by have := HN.out.2.2; rw [if_pos (by omega), this])).mono ?_); rintro e w10 ⟨rfl, hb10⟩; have HB10 := Lib.hid (HB9.out.trans (hb10.mono HB9.out.size)); clear hb10)
        | (go_at_call 54; (with_reducible refine (known_any _).mono ?_); rintro e w9 ⟨rfl, hb9⟩; have HB9 := Lib.hid (HB8.out.trans (hb9.mono HB8.out.size)); clear hb9)
        | (go_at_call 51; (with_reducible refine (nil_encN w7).mono ?_); rintro e w8 ⟨A8, q8, c8, rfl, hb8⟩; have HB8 := Lib.hid (HB7.out.trans (hb8.mono HB7.out.size)); clear hb8)
        | (go_at_call 51; (with_reducible refine (nil_encM w6).mono ?_); rintro e w7 ⟨A7, q7, c7, rfl, hb7⟩; have HB7 := Lib.hid (HB6.out.trans (hb7.mono HB6.out.size)); clear hb7)
        | (go_at_call 58; (with_reducible refine (load_nil _).mono ?_); rintro e w6 ⟨rfl, hb6⟩; have HB6 := Lib.hid (HB5.out.trans (hb6.mono HB5.out.size)); clear hb6)
        | (go_at_call 59; (with_reducible refine (abc_save (r := r) (G := 7) HST4.out (by rw [if_neg (by omega)])).mono ?_); rintro e w5 ⟨rfl, hb5⟩; have HB5 := Lib.hid (HB3.out.trans (hb5.mono HB3.out.size)); clear hb5)
        | (go_at_call 14; (with_reducible refine (c_new w3 (r : Int) (by omega) (by omega)).mono ?_); rintro e w4 ⟨rfl, hst4⟩; have HST4 := Lib.hid hst4; clear hst4)
        | (go_at_call 51; (with_reducible refine (z_enc w n 0 HN.out.1 HN.out.2.1 (by have := HN.out.2.2; rw [if_pos (by omega)])).mono ?_); rintro e w3 ⟨A3, q3, c3, rfl, hb3⟩; have HB3 := Lib.hid hb3; clear hb3))
      go_ret
      exact ⟨rfl, HB11.out⟩
end Go.Proofs.Ytklngdmpledgeaa.Sp

namespace Go.Proofs.Ytklngdmpledgeaa.Fr
open Go.ChangeShapes Go.WideShapes Go.ChangeAt Go.RowKit Go.Joins Go.Deep

/-- A slice of bytes that came in holds bytes. -/
theorem open_bytes {H : Type} {enc : TypeId × Value → H} {w : World} {held : Bool} {fuel : Nat} {cs : List Value} {x : DataW H × List MemPlace} (h : DataW.trod enc Try.prog w 0 (fun _ => true) held fuel 32 cs = some x) :
    ∃ A len cap l, cs = [.slice A len cap] ∧ BAt w (.slice A len cap) l ∧ bok l := by
  rcases open_ints Try.underlying32 Try.underlying5 (by kernel_rfl) h with ⟨hcs, _⟩ | ⟨a, len, c, zs, hcs, _, hl, hm, hz, _, hcell, hwz⟩
  · exact ⟨none, 0, 0, [], hcs, BAt.nil w, fun x hx => absurd hx (List.not_mem_nil)⟩
  · have hzl : len ≤ zs.length := by simp at hz; omega
    have hll : (zs.take len).length = len := by rw [List.length_take]; omega
    refine ⟨some a, len, c, zs.take len, hcs, ⟨some a, c, by rw [hll], by rw [hll]; omega, fun hp => ?_⟩, fun y hy => ?_⟩
    · rw [hll] at hp ⊢
      obtain ⟨b, off, spot⟩ := a
      have hc := hcell 0 (by omega)
      have hspot : spot = none := by simpa [Addr.add] using World.cell?_spot hc
      subst hspot
      refine ⟨b, off, rfl, ?_, fun i hi => ?_⟩
      · have := World.block_lt_of_cell? _ _ hc
        simpa [Addr.add] using this
      · have := hcell i (by omega)
        rw [show (Addr.mk b off none).add i = ⟨b, off + i, none⟩ by unfold Addr.add; split <;> simp_all] at this
        rw [this, getD_take hi]
    · have := hwz y (List.mem_of_mem_take hy)
      simp [Lit.wf, IntKind.min, IntKind.max, IntKind.signed, IntKind.bits] at this
      omega
end Go.Proofs.Ytklngdmpledgeaa.Fr

namespace Go.Proofs.Ytklngdmpledgeaa.Fr
open Go.ChangeShapes Go.WideShapes Go.ChangeAt Go.RowKit Go.Joins Go.Deep

theorem rows_list {Q : Nat → List Int → Prop} (m : Nat) (h : ∀ i, i < m → ∃ p, Q i p) : ∃ ps : List (List Int), ps.length = m ∧ ∀ i p, ps[i]? = some p → Q i p := by
  induction m with
  | zero => exact ⟨[], rfl, fun i p hp => by simp at hp⟩
  | succ m ih =>
    obtain ⟨ps, h1, h2⟩ := ih (fun i hi => h i (by omega))
    obtain ⟨p, hp⟩ := h m (by omega)
    refine ⟨ps ++ [p], by simp [h1], fun i q hq => ?_⟩
    rcases Nat.lt_or_ge i ps.length with hi | hi
    · rw [List.getElem?_append_left hi] at hq
      exact h2 i q hq
    · rw [List.getElem?_append_right hi] at hq
      have hi0 : i - ps.length = 0 := by
        rcases Nat.eq_zero_or_pos (i - ps.length) with h0 | h0
        · exact h0
        · rw [List.getElem?_eq_none (by simp; omega)] at hq; cases hq
      rw [hi0] at hq
      have hqp : p = q := by simpa using hq
      subst hqp
      have : i = m := by omega
      subst this
      exact hp
theorem bytes_cellsOf : Try.prog.cellsOf 32 = 1 := by kernel_rfl
/-- A slice of slices of bytes that came in. -/
theorem open_rows {H : Type} {enc : TypeId × Value → H} {w : World} {held : Bool} {fuel : Nat} {cs : List Value} {x : DataW H × List MemPlace} (h : DataW.trod enc Try.prog w 0 (fun _ => true) held fuel 60 cs = some x) :
    ∃ A len cap, cs = [.slice A len cap] ∧ RIn w A len cap := by
  rcases open_slice Try.underlying60 h with h0 | ⟨a, len, cap, m, n, D, Pl, rfl, hb, hl, hm, hmm, rfl, hx⟩
  · exact ⟨none, 0, 0, h0.1, [], ⟨none, 0, rfl, Nat.le_refl _, fun h => absurd h (by decide)⟩, fun l hl => absurd hl (List.not_mem_nil)⟩
  · rw [if_pos rfl] at hmm
    have hcell : ∀ i, i < len → ∃ l : List Int, bok l ∧ ∃ u, w.cell? (a.add i) = some u ∧ BAt w u l := fun i hi => by
      obtain ⟨cs', h1, h2⟩ := hx i (by omega)
      rw [bytes_cellsOf, Nat.mul_one] at h1
      obtain ⟨_, hlen, hcell⟩ := World.cells?_some h1
      obtain ⟨A, n, c, l, h3, h4, h5⟩ := open_bytes h2
      subst h3
      have h6 := hcell 0 (by decide)
      have h7 : (a.add i).add 0 = a.add i := by unfold Addr.add; split <;> simp_all
      rw [h7] at h6
      exact ⟨l, h5, _, h6, h4⟩
    obtain ⟨ls, h1, h2⟩ := rows_list len hcell
    subst h1
    refine ⟨some a, _, cap, rfl, ls, ⟨some a, cap, rfl, hl, fun hp => ?_⟩, fun l hl => ?_⟩
    · obtain ⟨b, off, spot⟩ := a
      obtain ⟨_, _, u, hc, _⟩ := hcell 0 hp
      have hspot : spot = none := by simpa [Addr.add] using World.cell?_spot hc
      subst hspot
      refine ⟨b, off, rfl, ?_, fun i hi => ?_⟩
      · have := World.block_lt_of_cell? _ _ hc
        simpa [Addr.add] using this
      · obtain ⟨_, u, h3, h4⟩ := h2 i _ (List.getElem?_eq_getElem hi)
        rw [show (Addr.mk b off none).add i = ⟨b, off + i, none⟩ by unfold Addr.add; split <;> simp_all] at h3
        refine ⟨u, h3, ?_⟩
        rw [show ls.getD i [] = ls[i] by simp [List.getD, List.getElem?_eq_getElem hi]]
        exact h4
    · obtain ⟨i, hi⟩ := List.mem_iff_getElem?.1 hl
      exact (h2 i l hi).1
end Go.Proofs.Ytklngdmpledgeaa.Fr
