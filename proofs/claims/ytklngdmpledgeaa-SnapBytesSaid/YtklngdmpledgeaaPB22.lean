/-
  The reference's Same, over bytes and over slices of bytes. Conditions: at most two million bytes, at most a thousand records.
-/
import Derived.Test.YtklngdmpledgeaaPB6
import Derived.Test.YtklngdmpledgeaaPB12
import Derived.Test.YtklngdmpledgeaaPB10
import Derived.Test.YtklngdmpledgeaaPB2
import Derived.Test.YtklngdmpledgeaaPB19
import Derived.Test.YtklngdmpledgeaaSNms
import Derived.Test.YtklngdmpledgeaaPQdc
namespace Go.Proofs.Ytklngdmpledgeaa.Sp
open Go.RowKit Fr

set_option maxRecDepth 100000 in
set_option maxHeartbeats 2000000 in
theorem bsame_any (w : World) (u v : Value) (l m : List Int) (hu : BAt w u l) (hv : BAt w v m) (hn : l.length ≤ 2000000) (hm : m.length ≤ 2000000) :
    Calls Try.prog 32 #[u, v] w fun e w' => e = .returned (.bool (decide (l = m))) ∧ Below w.heap.size w w' := by
  obtain ⟨A, cap, rfl, k1, h1⟩ := hu
  obtain ⟨A', cap', rfl, k2, h2⟩ := hv
  obtain ⟨n, hn2⟩ : ∃ n, n = l.length := ⟨_, rfl⟩
  obtain ⟨n', hn3⟩ : ∃ n', n' = m.length := ⟨_, rfl⟩
  obtain ⟨q, hq⟩ : ∃ q, q = decide (l = m) := ⟨_, rfl⟩
  rw [← hn2] at h1 hn k1 ⊢
  rw [← hn3] at h2 hm k2 ⊢
  rw [← hq]
  have H1 := Lib.hid h1
  have H2 := Lib.hid h2
  have HQ := Lib.hid hq
  have HL := Lib.hid (And.intro hn2 hn3)
  have e0 : (0 : Int) ≤ (n : Int) := by omega
  clear h1 h2 hn2 hn3 hq
  by_cases hnn : n = n'
  · subst hnn
    go_enter Try.func32, Try.ntmps32
    go_wp2
    go_loopg [5] n (fun (gh : Nat) s5 wx => ∃ i : Nat, gh = n - i ∧ i ≤ n ∧ s5 = .int .i64 (i : Int) ∧ Below w.heap.size w wx ∧ Hid (∀ k, k < i → l.getD k 0 = m.getD k 0))
    case atStart => exact ⟨0, rfl, Nat.zero_le _, rfl, Below.refl _ _, fun k hk => absurd hk (Nat.not_lt_zero _)⟩
    case round =>
      obtain ⟨i, rfl, hi, rfl, hbel, HAll⟩ := hrel
      by_cases hlt : i < n
      · have t1 : (i : Int) < (n : Int) := by omega
        have t2 : (0 : Int) ≤ (i : Int) := by omega
        obtain ⟨g, o, rfl, lg, hc1⟩ := H1.out (by omega)
        obtain ⟨g', o', rfl, lg', hc3⟩ := H2.out (by omega)
        obtain ⟨r, hr⟩ : ∃ r, r = l.getD i 0 := ⟨_, rfl⟩
        obtain ⟨r', hr'⟩ : ∃ r', r' = m.getD i 0 := ⟨_, rfl⟩
        have c1 : wr.cell? ⟨g, o + i, none⟩ = some (.int .u8 r) := by rw [hr]; exact (hbel.cell (p := ⟨g, o + i, none⟩) lg).trans (hc1 i hlt)
        have c3 : wr.cell? ⟨g', o' + i, none⟩ = some (.int .u8 r') := by rw [hr']; exact (hbel.cell (p := ⟨g', o' + i, none⟩) lg').trans (hc3 i hlt)
        have HB := Lib.hid hbel
        have HR := Lib.hid (And.intro hr hr')
        clear hbel hr hr' hc1 hc3
        by_cases hrr : r = r'
        · have HRR := Lib.hid hrr
          subst hrr
          go_wp2_with fail
          go_quiet (fail)
          go_wp2
          go_roundg (n - (i + 1))
          case measure => omega
          case rel =>
            refine ⟨i + 1, rfl, hlt, by go_num, ⟨HB.out.os, HB.out.tape, HB.out.output, HB.out.size, HB.out.block⟩, fun k hk => ?_⟩
            by_cases hki : k = i
            · rw [hki, ← HR.out.1, ← HR.out.2]
            · exact HAll.out k (by omega)
        · have hq : q = false := by
            rw [HQ.out]
            refine decide_eq_false fun e => hrr ?_
            rw [HR.out.1, HR.out.2, e]
          have HQF := Lib.hid hq
          have hrb1 : (r == r') = false := by simpa using hrr
          have hrb2 : (r != r') = true := by simpa using hrr
          clear hq
          go_wp2_with fail
          go_quiet (fail)
          go_wp2
          go_ret
          exact ⟨by rw [HQF.out]; rfl, ⟨HB.out.os, HB.out.tape, HB.out.output, HB.out.size, HB.out.block⟩⟩
      · have hil : i = n := by omega
        subst hil
        have t1 : decide ((i : Int) < (i : Int)) = false := by simp
        have HB := Lib.hid hbel
        have hq : q = true := by
          rw [HQ.out]
          refine decide_eq_true (List.ext_getElem (by rw [← HL.out.1, ← HL.out.2]) fun k h3 h4 => ?_)
          have h5 := HAll.out k (by rw [HL.out.1]; exact h3)
          rw [List.getD_eq_getElem?_getD, List.getD_eq_getElem?_getD, List.getElem?_eq_getElem h3, List.getElem?_eq_getElem h4] at h5
          exact h5
        have HQT := Lib.hid hq
        clear hbel hq
        go_wp2
        go_ret
        exact ⟨by rw [HQT.out]; rfl, HB.out⟩
  · have hq : q = false := by
      rw [HQ.out]
      refine decide_eq_false fun e => hnn ?_
      rw [HL.out.1, HL.out.2, e]
    have hne : ¬ (n : Int) = (n' : Int) := by omega
    have HQF := Lib.hid hq
    clear hq
    go_enter Try.func32, Try.ntmps32
    go_wp2
    go_ret
    exact ⟨by rw [HQF.out]; rfl, Below.refl _ _⟩
set_option maxRecDepth 100000 in
set_option maxHeartbeats 4000000 in
theorem rsame_any (w : World) (u v : Value) (bs rs : List (List Int)) (hu : RowsA w u bs) (hv : RowsA w v rs) (hn : bs.length ≤ 20000) (hm : rs.length ≤ 20000) (hb1 : ∀ b ∈ bs, b.length ≤ 2000000) (hb2 : ∀ r ∈ rs, r.length ≤ 2000000) :
    Calls Try.prog 57 #[u, v] w fun e w' => e = .returned (.bool (decide (bs = rs))) ∧ Below w.heap.size w w' := by
  have hu0 := hu
  have hv0 := hv
  obtain ⟨A, cap, rfl, _⟩ := hu
  obtain ⟨A', cap', rfl, _⟩ := hv
  obtain ⟨n, hn2⟩ : ∃ n, n = bs.length := ⟨_, rfl⟩
  obtain ⟨n', hn3⟩ : ∃ n', n' = rs.length := ⟨_, rfl⟩
  obtain ⟨q, hq⟩ : ∃ q, q = decide (bs = rs) := ⟨_, rfl⟩
  rw [← hn2] at hn hu0 ⊢
  rw [← hn3] at hm hv0 ⊢
  rw [← hq]
  have HU := Lib.hid hu0
  have HV := Lib.hid hv0
  have HQ := Lib.hid hq
  have HL := Lib.hid (And.intro hn2 hn3)
  have HB1 := Lib.hid hb1
  have HB2 := Lib.hid hb2
  have e0 : (0 : Int) ≤ (n : Int) := by omega
  clear hu0 hv0 hn2 hn3 hq hb1 hb2
  by_cases hnn : n = n'
  · subst hnn
    go_enter Try.func57, Try.ntmps57
    go_wp2
    go_loopg [5] n (fun (gh : Nat) s5 wx => ∃ i : Nat, gh = n - i ∧ i ≤ n ∧ s5 = .int .i64 (i : Int) ∧ Hid (Below w.heap.size w wx) ∧ Hid (∀ k, k < i → bs[k]? = rs[k]?))
    case atStart => exact ⟨0, rfl, Nat.zero_le _, rfl, Below.refl _ _, fun k hk => absurd hk (Nat.not_lt_zero _)⟩
    case round =>
      obtain ⟨i, rfl, hi, rfl, HB, HAll⟩ := hrel
      by_cases hlt : i < n
      · have t1 : (i : Int) < (n : Int) := by omega
        have t2 : (0 : Int) ≤ (i : Int) := by omega
        have hi1 : i < bs.length := by rw [← HL.out.1]; exact hlt
        have hi2 : i < rs.length := by rw [← HL.out.2]; exact hlt
        obtain ⟨A1, q1, eA, hc1⟩ := HU.out.below HB.out
        obtain ⟨A2, q2, eA', hc3⟩ := HV.out.below HB.out
        simp only [Value.slice.injEq] at eA eA'
        obtain ⟨rfl, _, _⟩ := eA
        obtain ⟨rfl, _, _⟩ := eA'
        obtain ⟨g, o, rfl, lg, hc1⟩ := hc1 (by omega)
        obtain ⟨g', o', rfl, lg', hc3⟩ := hc3 (by omega)
        obtain ⟨u1, c1, b1⟩ := hc1 i bs[i] (List.getElem?_eq_getElem hi1)
        obtain ⟨u2, c3, b2⟩ := hc3 i rs[i] (List.getElem?_eq_getElem hi2)
        obtain ⟨p, hp⟩ : ∃ p, p = decide (bs[i] = rs[i]) := ⟨_, rfl⟩
        have hsm : ∀ qq : InW wr, Calls Try.prog 32 #[u1, u2] qq.val fun e w'' => e = .returned (.bool p) ∧ ∃ q' : InW wr, w'' = q'.val := fun qq => by
          have h1 := bsame_any qq.val u1 u2 bs[i] rs[i] (b1.kept qq.bel) (b2.kept qq.bel) (HB1.out _ (List.getElem_mem hi1)) (HB2.out _ (List.getElem_mem hi2))
          rw [← hp] at h1
          exact calls_in h1
        have d1 : ∀ qq : InW wr, qq.val.cell? ⟨g, o + i, none⟩ = some u1 := fun qq => qq.cell c1
        have d3 : ∀ qq : InW wr, qq.val.cell? ⟨g', o' + i, none⟩ = some u2 := fun qq => qq.cell c3
        have HP := Lib.hid hp
        clear c1 c3 b1 b2 hc1 hc3 hp
        go_upto_region 6 with fail
        refine wp_region_below (W := wr) (by kernel_rfl) (by kernel_rfl) (Below.refl _ _) ?_
        repeat (go_big_quiet_step ((go_at_call 32; with_reducible exact hsm _)))
        refine wpQuiet_nil ?_
        rintro _ ⟨qq, rfl⟩
        obtain ⟨w9, hb9⟩ := qq
        try dsimp only
        have HB9 := Lib.hid (HB.out.trans (hb9.mono HB.out.size))
        clear d1 d3 hsm hb9
        cases p
        · have hq : q = false := by
            rw [HQ.out]
            refine decide_eq_false fun e => ?_
            have h5 : ¬ bs[i] = rs[i] := of_decide_eq_false HP.out.symm
            refine h5 ?_
            have h6 : bs[i]? = rs[i]? := by rw [← e]
            rw [List.getElem?_eq_getElem hi1, List.getElem?_eq_getElem hi2] at h6
            exact Option.some.inj h6
          have HQF := Lib.hid hq
          clear hq
          go_wp2
          go_ret
          exact ⟨by rw [HQF.out]; rfl, HB9.out⟩
        · go_wp2
          go_roundg (n - (i + 1))
          case measure => omega
          case rel =>
            refine ⟨i + 1, rfl, hlt, by go_num, HB9.out, fun k hk => ?_⟩
            by_cases hki : k = i
            · rw [hki, List.getElem?_eq_getElem hi1, List.getElem?_eq_getElem hi2]
              have h5 : bs[i] = rs[i] := of_decide_eq_true HP.out.symm
              rw [h5]
            · exact HAll.out k (by omega)
      · have hil : i = n := by omega
        subst hil
        have t1 : decide ((i : Int) < (i : Int)) = false := by simp
        have hq : q = true := by
          rw [HQ.out]
          refine decide_eq_true (List.ext_getElem? fun k => ?_)
          by_cases hk : k < i
          · exact HAll.out k hk
          · rw [List.getElem?_eq_none (by rw [← HL.out.1]; omega), List.getElem?_eq_none (by rw [← HL.out.2]; omega)]
        have HQT := Lib.hid hq
        clear hq
        go_wp2
        go_ret
        exact ⟨by rw [HQT.out]; rfl, HB.out⟩
  · have hq : q = false := by
      rw [HQ.out]
      refine decide_eq_false fun e => hnn ?_
      rw [HL.out.1, HL.out.2, e]
    have hne : ¬ (n : Int) = (n' : Int) := by omega
    have HQF := Lib.hid hq
    clear hq
    go_enter Try.func57, Try.ntmps57
    go_wp2
    go_ret
    exact ⟨by rw [HQF.out]; rfl, Below.refl _ _⟩
end Go.Proofs.Ytklngdmpledgeaa.Sp

namespace Go.Proofs.Ytklngdmpledgeaa.Sp
open Go.RowKit Fr
attribute [local go_sem] Oper.semAt_some

def kRecs : List (List Int) := [[97], [98, 99]]
theorem kRecs_fits : fitsS kRecs = true ∧ tot kRecs = 14 ∧ bodyS kRecs = [2, 1, 97, 2, 98, 99] := by decide +kernel
theorem kRecs_bok : ∀ l ∈ kRecs, bok l ∧ l.length ≤ 2000000 := fun l hl => by
  simp only [kRecs, List.mem_cons, List.not_mem_nil, or_false] at hl
  rcases hl with rfl | rfl
  · exact ⟨fun x hx => by simp at hx; omega, by decide⟩
  · exact ⟨fun x hx => by simp at hx; omega, by decide⟩
theorem rows_lit {w : World} {u u' : Value} {l l' : List Int} (h : BAt w u l) (h' : BAt w u' l') : RowsA (w.alloc (.cells #[u, u'] 32)) (.slice (some ⟨w.heap.size, 0, none⟩) 2 2) [l, l'] := by
  refine ⟨_, 2, rfl, fun _ => ⟨w.heap.size, 0, rfl, by simp, fun i b hi => ?_⟩⟩
  have hb := block_new w (.cells #[u, u'] 32)
  have hk := Jo.alloc_below w (.cells #[u, u'] 32)
  have h2 : i = 0 ∨ i = 1 := by have := (List.getElem?_eq_some_iff.1 hi).1; simp at this; omega
  rcases h2 with rfl | rfl
  · simp at hi; subst hi
    exact ⟨u, by simp only [World.cell?, Nat.zero_add]; rw [hb]; rfl, h.kept hk⟩
  · simp at hi; subst hi
    exact ⟨u', by simp only [World.cell?, Nat.zero_add]; rw [hb]; rfl, h'.kept hk⟩
abbrev kW (w : World) : World := ((w.alloc (.cells #[.int .u8 97] 5 (1, 2))).alloc (.cells #[.int .u8 98, .int .u8 99] 5 (2, 3))).alloc (.cells #[.slice (some ⟨w.heap.size, 0, none⟩) 1 1, .slice (some ⟨w.heap.size + 1, 0, none⟩) 2 2] 32)
theorem kW_below (w : World) : Below w.heap.size w (kW w) := (((Below.refl _ _).alloc (Nat.le_refl _) _).alloc (by simp) _).alloc (by simp; omega) _
theorem k_enc (w : World) : Calls Try.prog 51 #[.slice (some ⟨w.heap.size + 1 + 1, 0, none⟩) 2 2] (kW w) fun e w' => ∃ g o c', e = .returned (.tuple #[.slice (some ⟨g, o, none⟩) 14 c', .int .i64 0]) ∧ (14 ≤ c' ∧ BAt w' (.slice (some ⟨g, o + 4, none⟩) 6 (c' - 4)) [2, 1, 97, 2, 98, 99]) ∧ Below w.heap.size w w' := by
  have h1 := (lit_at w [97] (1, 2)).kept ((Below.refl _ _).alloc (Nat.le_refl _) (.cells #[.int .u8 98, .int .u8 99] 5 (2, 3)))
  have h2 := lit_at (w.alloc (.cells #[.int .u8 97] 5 (1, 2))) [98, 99] (2, 3)
  have hr : RowsA (kW w) (.slice (some ⟨w.heap.size + 1 + 1, 0, none⟩) 2 2) kRecs := by
    have := rows_lit h1 h2
    simpa [bv, kW, kRecs] using this
  have he := encode_ok (kW w) _ 2 2 kRecs hr kRecs_bok kRecs_fits.1
  refine he.mono ?_
  rintro e w' ⟨A', q, c', rfl, hq, ⟨hba, _⟩, hb⟩
  rw [kRecs_fits.2.1] at hq
  subst hq
  have hlen := hba.len
  obtain ⟨A2, c2, e2, _, h3⟩ := id hba
  obtain ⟨g, o, e3, _⟩ := h3 (by rw [hlen.1]; decide)
  cases e2
  subst e3
  have hk := kW_below w
  refine ⟨g, o, c', rfl, ⟨hlen.2, ?_⟩, hk.trans (hb.mono hk.size)⟩
  have hm := hba.mid 4 10 (c' - 4) (some ⟨g, o + 4, none⟩) (fun _ => rfl) (by decide) (by decide) (by omega)
  have hbd : (bodyS kRecs).length ≤ 1048568 := by rw [kRecs_fits.2.2]; decide
  have h5 := frF_body hbd
  have h6 : nn (frF (bodyS kRecs)) = 6 := by rw [frF_nn hbd, kRecs_fits.2.2]; rfl
  rw [h6, kRecs_fits.2.2] at h5
  have h7 : ((encS kRecs).drop 4).take (10 - 4) = [2, 1, 97, 2, 98, 99] := by
    unfold encS
    rw [kRecs_fits.2.2]
    exact h5
  rw [h7] at hm
  exact hm
theorem k_size (w : World) : Calls Try.prog 56 #[.slice none 0 0] w fun e w' => e = .returned (.int .i64 9) ∧ Below w.heap.size w w' := by
  have h := size_any w none 0 0 [] (RowsA.nil w 0 none) (fun l hl => by cases hl) (by decide)
  have e : sizeE [] = 9 := by decide +kernel
  rw [e] at h
  exact h
set_option maxRecDepth 100000 in
set_option maxHeartbeats 4000000 in
theorem known_any (w : World) : Calls Try.prog 54 #[] w fun e w' => e = .returned (.bool true) ∧ Below w.heap.size w w' := by
  have kc := fun (w : World) (C : Array Value) (n c : Nat) => Lib.run_convert_bytes_const (P := Try.prog) w 32 5 C n c Try.underlying32 Try.underlying5
  have kc2 : ∀ (w : World) (o : Obj) (C : Array Value) (n c : Nat), (convert 32 32 (.slice (some ⟨w.heap.size + 1, 0, none⟩) n c)).run Try.prog ((w.alloc o).alloc (.cells C 5)) = .ok (.slice (some ⟨w.heap.size + 1, 0, none⟩) n c) ((w.alloc o).alloc (.cells C 5 (C.size, C.size + 1))) := fun w o C n c => by
    have := kc (w.alloc o) C n c
    rw [World.size_alloc] at this
    exact this
  have HE := Lib.hid (k_enc w)
  go_enter Try.func54, Try.ntmps54
  go_wp2_with (first
    | (go_at_call 32; (with_reducible refine (bsame_any _ _ _ [2, 1, 97, 2, 98, 99] [2, 1, 97, 2, 98, 99] HBB.out HLIT.out (by decide) (by decide)).mono ?_); rintro e w4 ⟨rfl, hb4⟩
       have HB4 := Lib.hid (HB3.out.trans (hb4.mono HB3.out.size))
       clear hb4)
    | (go_at_call 56
       (with_reducible refine (k_size _).mono ?_)
       rintro e w3 ⟨rfl, hb3⟩
       have hal := Jo.alloc_below w3 (.cells #[.int .u8 2, .int .u8 1, .int .u8 97, .int .u8 2, .int .u8 98, .int .u8 99] 5)
       have HB3 := Lib.hid (HB1.out.trans ((hb3.trans (hal.mono hb3.size)).mono HB1.out.size))
       have HBB := Lib.hid (HBA.out.kept (hb3.trans (hal.mono hb3.size)))
       have hlit := lit_at w3 [2, 1, 97, 2, 98, 99] (0, 0)
       have HLIT : Hid (BAt (w3.alloc (.cells #[.int .u8 2, .int .u8 1, .int .u8 97, .int .u8 2, .int .u8 98, .int .u8 99] 5)) (.slice (some ⟨w3.heap.size, 0, none⟩) 6 6) [2, 1, 97, 2, 98, 99]) := Lib.hid (by simpa [bv] using hlit)
       clear hb3 hal hlit)
    | (go_at_call 51; (with_reducible refine HE.out.mono ?_); rintro e w1 ⟨g, o, c', rfl, ⟨hc14, hba⟩, hb1⟩
       have HBA := Lib.hid hba
       have HB1 := Lib.hid hb1
       have hsm := slice_mid g o 14 c' 4 10 (by decide) (by omega) (by omega)
       clear hba hb1))
  go_ret
  exact ⟨rfl, HB4.out⟩
end Go.Proofs.Ytklngdmpledgeaa.Sp

namespace Go.Proofs.Ytklngdmpledgeaa.Sp
open Go.RowKit Fr Sr

theorem nm_one (v : Value) (bs : List Int) : nmL [(ksnap, v, bs)] = [ksnap] := by
  unfold nmL keyB
  rw [List.map_cons, List.map_nil, List.mergeSort_singleton]
  rfl
theorem c_names {W0 W : World} {p : Nat} {s : S} {M : Nat} {v : Value} {bs : List Int} (h : St W0 p s [(ksnap, v, bs)] M W) :
    Calls Try.prog 35 #[.pointer (some ⟨p, 0, none⟩)] W fun e W' => ∃ g o c, e = .returned (.slice (some ⟨g, o, none⟩) 1 c) ∧ (W'.cell? ⟨g, o, none⟩ = some (.string ksnap) ∧ g < W'.heap.size) ∧ St W0 p s [(ksnap, v, bs)] M W' ∧ Below W.heap.size W W' := by
  have h0 := h
  obtain ⟨mb, h1, h2, h3⟩ := h
  refine (names_any h1 (by simp) (fun x hx => by simp at hx; subst hx; show ksnap.size ≤ 12; decide)).mono ?_
  rintro e W' ⟨A, c, rfl, hr, hb⟩
  rw [nm_one] at hr
  rcases hr with hr | ⟨g, o, rfl, hg, hc⟩
  · cases hr
  · rw [nm_one]
    refine ⟨g, o, c, rfl, ⟨?_, hg⟩, h0.below hb, hb⟩
    have := hc 0 ksnap rfl
    simpa using this
/-- Any bytes in the snapshot's place. -/
theorem c_write {W0 W : World} {p : Nat} {s : S} {M : Nat} {v : Value} {bs : List Int} (h : St W0 p s [(ksnap, v, bs)] M W) (hs : s.a = false ∧ s.d = false ∧ s.room = 10000) {A : Option Addr} {n c : Nat} {lb : List Int} (hb : BAt W0 (.slice A n c) lb) (hn : n ≤ 600) :
    Calls Try.prog 17 #[.pointer (some ⟨p, 0, none⟩), .string ksnap, .slice A n c] W fun e W' => e = .returned (.int .i64 0) ∧ ∃ s' L', St W0 p s' L' W'.heap.size W' ∧ bytL L' ksnap = lb := by
  have hu := c_used h
  have hln := hb.len.1
  obtain ⟨mb, h1, h2, h3⟩ := h
  have hW := Write_any ksnap (A := A) (n := n) (c := c) (bs := lb) h1 (by omega) hln (fun W' ho => bat_kept (hb.kept h2) (fun hp a n c e => ho.2 a.block (bat_lt (hb.kept h2) hp e) (fun hown => by have := (h3 _ hown).1; have := bat_lt hb hp e; omega)))
  have e0 : bytL [(ksnap, v, bs)] ksnap = bs := byt_one _ _ _
  have e1 : rdy s.d [ksnap] = 0 := by rw [hs.2.1]; decide
  have hr : ¬ s.room < s.used - ((bytL [(ksnap, v, bs)] ksnap).length : Int) + (n : Int) := by rw [e0, hs.2.2, hu]; omega
  have hU : ∀ m : Int, useS s m = s := fun m => by unfold useS; rw [hs.1]; rfl
  have hN : ∀ m : Int, useN s m = m := fun m => by unfold useN; rw [if_neg (fun h => by rw [hs.1] at h; cases h.1)]
  have hE : wriE s [(ksnap, v, bs)] ksnap n = 0 := by
    unfold wriE
    rw [e1, if_neg (by decide), if_neg hr, hU]
    unfold dwn
    rw [hs.2.1]; rfl
  have hL : wriL s [(ksnap, v, bs)] ksnap lb = putL [(ksnap, v, bs)] ksnap (dv, lb) := by
    unfold wriL
    rw [if_pos ⟨e1, by rw [hln]; exact hr⟩, hN, if_pos (by omega)]
    congr 2
    have : ((1 : Int) + (lb.length : Int) - 1).toNat = lb.length := by omega
    rw [this, List.take_length]
  rw [hE, hL] at hW
  refine hW.mono ?_
  rintro e W' ⟨rfl, mb', L', hm, ha⟩
  refine ⟨rfl, _, L', St.mv h2 (fun k hk => (h3 k hk).1) hm, ?_⟩
  rw [(ha ksnap).2, byt_put, if_pos rfl]
theorem c_loadG {W0 W : World} {p : Nat} {s : S} {L : List Fi} {M : Nat} {lb : List Int} {d f : Int} (h : St W0 p s L M W) (hR : bytL L ksnap = lb) (hb : bok lb) (hd : d = decE lb) (hf : f = if d = 0 then 0 else 13) :
    Calls Try.prog 58 #[.pointer (some ⟨p, 0, none⟩)] W fun e W' => ∃ A n c, e = .returned (.tuple #[.slice A n c, .int .i64 f]) ∧ RowsF W.heap.size W' (.slice A n c) (decL lb) ∧ St W0 p s L W.heap.size W' ∧ Below W.heap.size W W' := by
  have h0 := h.here
  obtain ⟨mb, h1, h2, h3⟩ := h
  have hl := load_any h1 (by rw [hR]; exact hb)
  unfold LodR at hl
  rw [hR, ← hd, ← hf] at hl
  refine hl.mono ?_
  rintro e W' ⟨⟨A, n, c, rfl, hr⟩, hb⟩
  exact ⟨A, n, c, rfl, hr, h0.below hb, hb⟩
theorem dec_nil : (12 : Int) = decE [] := by decide +kernel
theorem c_load0 {W0 W : World} {p : Nat} {s : S} {M : Nat} (h : St W0 p s [] M W) :
    Calls Try.prog 58 #[.pointer (some ⟨p, 0, none⟩)] W fun e W' => ∃ A n c, e = .returned (.tuple #[.slice A n c, .int .i64 13]) ∧ St W0 p s [] W.heap.size W' := by
  refine (c_loadG (lb := []) (d := 12) (f := 13) h rfl (fun x hx => by cases hx) dec_nil (by rw [if_neg (by decide)])).mono ?_
  rintro e W' ⟨A, n, c, rfl, _, hs, _⟩
  exact ⟨A, n, c, rfl, hs⟩
theorem lst_bnd : ∀ (n : Nat) (l : List Int), (lstS n l).2.1.length ≤ n ∧ ∀ x ∈ (lstS n l).2.1, x.length ≤ l.length
  | 0, l => ⟨Nat.le_refl _, fun x hx => by cases hx⟩
  | n + 1, l => by
    have hr : (Oc.rg l).2.2.length ≤ l.length := rg_len
    have ht : (txt l).2.1.length ≤ l.length ∧ (txt l).2.2.length ≤ l.length := by
      unfold txt
      split
      · exact ⟨by simp, Nat.le_refl _⟩
      · split
        · exact ⟨by simp, Nat.le_refl _⟩
        · split
          · exact ⟨by simp, Nat.le_refl _⟩
          · exact ⟨by simp only [List.length_take]; omega, by simp only [List.length_drop]; omega⟩
    unfold lstS
    split
    · obtain ⟨h1, h2⟩ := lst_bnd n (txt l).2.2
      refine ⟨by simp only [List.length_cons]; omega, fun x hx => ?_⟩
      rcases List.mem_cons.1 hx with e | hx
      · rw [e]; exact ht.1
      · have := h2 x hx; omega
    · exact ⟨by simp, fun x hx => by simp at hx; subst hx; simp⟩
theorem decL_bnd {G : List Int} (hG : G.length ≤ 2000000) : (decL G).length ≤ 20000 ∧ ∀ x ∈ decL G, x.length ≤ 2000000 := by
  have hB : (opB G).length ≤ G.length := by
    unfold opB
    split
    · rw [List.length_take, List.length_drop]; omega
    · simp
  have hA : (allS (opB G)).2.1.length ≤ 20000 ∧ ∀ x ∈ (allS (opB G)).2.1, x.length ≤ 2000000 := by
    unfold allS
    split
    · obtain ⟨h1, h2⟩ := lst_bnd (cntS (opB G)).2.1 (cntS (opB G)).2.2
      have h3 := (cnt_few (opB G)).1
      have h4 : (cntS (opB G)).2.2.length ≤ (opB G).length := by
        have h5 : (Oc.rg (opB G)).2.2.length ≤ (opB G).length := rg_len
        unfold cntS
        split
        · exact Nat.le_refl _
        · split
          · exact Nat.le_refl _
          · exact h5
      exact ⟨by omega, fun x hx => by have := h2 x hx; omega⟩
    · exact ⟨Nat.zero_le _, fun x hx => by cases hx⟩
  unfold decL
  split
  · exact hA
  · exact ⟨Nat.zero_le _, fun x hx => by cases hx⟩
/-- The reference's Same at equal records. -/
theorem same_ge (w : World) (u v : Value) (bs : List (List Int)) (hu : RowsA w u bs) (hv : RowsA w v bs) (h1 : bs.length ≤ 20000 ∧ ∀ x ∈ bs, x.length ≤ 2000000) :
    Calls Try.prog 57 #[u, v] w fun e w' => e = .returned (.bool true) ∧ Below w.heap.size w w' := by
  have h := rsame_any w u v bs bs hu hv h1.1 h1.1 h1.2 h1.2
  rw [decide_eq_true rfl] at h
  exact h
end Go.Proofs.Ytklngdmpledgeaa.Sp
