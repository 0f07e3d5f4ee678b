/-
  The contracts of list and Decode. Conditions: at most two million bytes.
-/
import Derived.Test.YtklngdmpledgeaaPB8
import Derived.Test.YtklngdmpledgeaaPB6
import Derived.Test.YtklngdmpledgeaaPB3
import Derived.Test.YtklngdmpledgeaaPB7
namespace Go.Proofs.Ytklngdmpledgeaa.Sp
open Go.RowKit Fr
attribute [local go_sem] Oper.semAt_some

/-- So far: the mistake er, the records acc, what is left r; so many to go. -/
structure LR (w : World) (b : Nat) (L : List Int) (n : Nat) (W : World) (v : Value) (er : Int) (acc : List (List Int)) (r : List Int) : Prop where
  li : LI w b W v acc
  rd : ∃ u, Oc.RdR W b er r u
  ok : er = 0 → allS L = ((lstS n r).1, acc ++ (lstS n r).2.1, (lstS n r).2.2)
  no : ¬ er = 0 → allS L = (er, acc, r)
  few : acc.length + n ≤ 10000
theorem cnt_few (L : List Int) : (cntS L).2.1 ≤ 10000 ∧ (¬ (cntS L).1 = 0 → (cntS L).2.1 = 0 ∧ (cntS L).2.2 = L) := by
  unfold cntS
  split
  · exact ⟨Nat.zero_le _, fun _ => ⟨rfl, rfl⟩⟩
  · split
    · exact ⟨Nat.zero_le _, fun _ => ⟨rfl, rfl⟩⟩
    · rename_i h1 h2
      refine ⟨?_, fun h => absurd rfl h⟩
      have : ¬ ¬ ((Oc.rg L).2.1 : Int) ≤ 10000 := h2
      show (Oc.rg L).2.1 ≤ 10000
      omega
theorem LR.start {w W : World} {b : Nat} {L : List Int} (h : Oc.RdTo b w (cntS L).1 (cntS L).2.2 W) : LR w b L (cntS L).2.1 W (.slice none 0 0) (cntS L).1 [] (cntS L).2.2 := by
  obtain ⟨u, h1, h2⟩ := h
  have hc := cnt_few L
  refine ⟨LI.nil h2, ⟨u, h1⟩, fun e => ?_, fun e => ?_, by simp; exact hc.1⟩
  · unfold allS; rw [if_pos e]; rfl
  · unfold allS; rw [if_neg e, (hc.2 e).2]
theorem LR.next {w W W3 : World} {b n : Nat} {L r : List Int} {v u : Value} {acc : List (List Int)} (h : LR w b L (n + 1) W v 0 acc r) (hbw : b < w.heap.size) (hrd : Oc.RdTo b W (txt r).1 (txt r).2.2 W3) (hu : BAt W3 u (txt r).2.1) (hk : BK (fun k => W.heap.size ≤ k) u (txt r).2.1) (hu1 : u.oneCell' = true) :
    ∃ A m c W5, (Builtin.append_ #[60, 60] 60 #[v, .slice (some ⟨W3.heap.size, 0, none⟩) 1 1]).run Try.prog (W3.alloc (.cells #[u] 32)) = .ok (.slice A m c) W5 ∧ LR w b L n W5 (.slice A m c) (txt r).1 (acc ++ [(txt r).2.1]) (txt r).2.2 := by
  obtain ⟨hli, hrd0, hok, hno, hfew⟩ := h
  obtain ⟨u3, hr3, hg3⟩ := hrd
  obtain ⟨A, m, c, W5, h1, h2, h3⟩ := hli.step hbw hg3 hu hk hu1 (by omega)
  refine ⟨A, m, c, W5, h1, h2, ⟨u3, hr3.upto h3⟩, fun e => ?_, fun e => ?_, by rw [List.length_append]; simp; omega⟩
  · have h4 := hok rfl
    unfold lstS at h4
    rw [if_pos e] at h4
    rw [h4]; simp
  · have h4 := hok rfl
    unfold lstS at h4
    rw [if_neg e] at h4
    rw [h4, (txt_err e).1, (txt_err e).2]
theorem LR.fin {w W : World} {b n : Nat} {L : List Int} {v : Value} {er : Int} {acc : List (List Int)} {r : List Int} (h : LR w b L n W v er acc r) (hn : n = 0 ∨ ¬ er = 0) : RowsF w.heap.size W v (allS L).2.1 ∧ Oc.RdTo b w (allS L).1 (allS L).2.2 W := by
  obtain ⟨hli, ⟨u, hrd⟩, hok, hno, hfew⟩ := h
  have e : allS L = (er, acc, r) := by
    by_cases he : er = 0
    · have hn0 : n = 0 := hn.resolve_right (fun h => h he)
      rw [hok he, hn0, he]
      simp [lstS]
    · exact hno he
  rw [e]
  exact ⟨hli.toF, u, hrd, hli.bel⟩
theorem okO {w : World} {b : Nat} {er : Int} {l : List Int} {v : Value} (h : Oc.RdR w b er l v) (q : Bool) (hq : q = decide (er = 0)) : Calls Try.prog 134 #[.pointer (some ⟨b, 0, none⟩)] w fun e w' => e = .returned (.bool q) ∧ w = w' := by
  by_cases he : er = 0
  · subst he; subst hq; exact Jo.ok_yes h
  · have e : q = false := by rw [hq]; exact decide_eq_false he
    rw [e]; exact Jo.ok_no h he
theorem w_lt {w W : World} {b : Nat} (h : w.grownBy W (some b)) {B : Nat} {o : Obj} (hB : w.heap[B]? = some o) (hne : B ≠ b) : W.heap[B]? = some o := block_grown hB h hne
set_option maxRecDepth 100000 in
set_option maxHeartbeats 8000000 in
theorem list_any {w : World} {b B : Nat} {L : List Int} {v : Value} (h : Oc.RdR w b 0 L v) (hB : w.heap[B]? = some (.cells #[.pointer (some ⟨b, 0, none⟩)] 143 (0, 0))) (hne : B ≠ b) :
    Calls Try.prog 97 #[.pointer (some ⟨b, 0, none⟩), .func (.func 98) #[] #[.pointer (some ⟨B, 0, none⟩)]] w fun e w' => ∃ vr, e = .returned vr ∧ RowsF w.heap.size w' vr (allS L).2.1 ∧ Oc.RdTo b w (allS L).1 (allS L).2.2 w' := by
  have hbw := h.lt
  obtain ⟨cn, hcn⟩ : ∃ cn, cn = (cntS L).2.1 := ⟨_, rfl⟩
  have hc := count_at h
  rw [← hcn] at hc
  have eg : ∀ args w, (callFunc 98 args).run Try.prog w = .ok (.enter 98 args) w := enters_of Try.func98 (by kernel_rfl) rfl
  have HC := Lib.hid hc
  have HBW := Lib.hid hbw
  have HB := Lib.hid hB
  have HNE := Lib.hid hne
  have HCN := Lib.hid hcn
  have hcf := (cnt_few L).1
  rw [← hcn] at hcf
  clear h hB hne hc hbw hcn
  go_enter Try.func97, Try.ntmps97
  go_wp2_with (go_at_call 133; (with_reducible refine HC.out.mono ?_); rintro e w1 ⟨rfl, hr1⟩
               have HL1 : Hid (∃ er r, LR w b L cn w1 (.slice none 0 0) er [] r) := by
                 rw [HCN.out]; exact ⟨_, _, LR.start hr1⟩
               clear hr1)
  go_loopg [5, 6] cn (fun (gh : Nat) s5 s6 wx => s6 = .int .i64 (gh : Int) ∧ gh ≤ 10000 ∧ Hid (∃ er acc r, LR w b L gh wx s5 er acc r))
  case atStart =>
    obtain ⟨er, r, hl⟩ := HL1.out
    exact ⟨rfl, hcf, er, [], r, hl⟩
  case round =>
    obtain ⟨rfl, hgh, HI⟩ := hrel
    obtain ⟨er, acc, r, hlr⟩ := HI.out
    have HLR := Lib.hid hlr
    obtain ⟨hli, ⟨u, hrd⟩, hok, hno, hfew⟩ := hlr
    obtain ⟨q, hq⟩ : ∃ q, q = decide (er = 0) := ⟨_, rfl⟩
    have HOK := Lib.hid (okO hrd q hq)
    have HRD := Lib.hid hrd
    have HQ := Lib.hid hq
    have HLI := Lib.hid hli
    clear hrd hok hno HI
    by_cases t1 : (0 : Int) < (gk : Int)
    · cases q
      · have he : ¬ er = 0 := of_decide_eq_false HQ.out.symm
        have HFIN := Lib.hid (HLR.out.fin (.inr he))
        clear hq he hli
        go_wp2_with (go_at_call 134; (with_reducible refine HOK.out.mono ?_); rintro e w2 ⟨rfl, rfl⟩)
        go_ret
        exact ⟨_, rfl, HFIN.out⟩
      · have he : er = 0 := of_decide_eq_true HQ.out.symm
        subst he
        obtain ⟨n, rfl⟩ : ∃ n, gk = n + 1 := ⟨gk - 1, by omega⟩
        have hw9 : IntKind.i64.wrap (((n + 1 : Nat) : Int) - 1) = (n : Int) := by rw [IntKind.wrap_i64]; omega
        have HB2 := Lib.hid (block_grown HB.out hli.bel HNE.out)
        have HD := Lib.hid (decode1_any HRD.out HB2.out)
        clear hq hli
        go_wp2_with (first
          | (at_builtin; refine Lib.wpList_append_run _ rfl _ _ 60 60 rfl _ _ rfl rfl _ _ HR.out ?_)
          | (go_at_fn 98; (with_reducible refine HD.out.mono ?_); rintro e w3 ⟨g3, k3, c3, rfl, hg3, hk3, hba3, hrd3⟩
             obtain ⟨A5, m5, c5, w5, hr5, hlr5⟩ := HLR.out.next (u := .slice (some ⟨g3, 0, none⟩) k3 c3) HBW.out hrd3 hba3 (fun hp a n c e => by cases e; exact hg3) rfl
             have HR := Lib.hid hr5
             have HLR5 := Lib.hid hlr5
             clear hg3 hk3 hba3 hrd3 hr5 hlr5)
          | (go_at_call 134; (with_reducible refine HOK.out.mono ?_); rintro e w2 ⟨rfl, rfl⟩))
        go_roundg n
        case measure => omega
        case rel => exact ⟨by first | rfl | go_num | rw [hw9], by omega, _, _, _, HLR5.out⟩
    · have h0 : gk = 0 := by omega
      subst h0
      have HFIN := Lib.hid (HLR.out.fin (.inl rfl))
      clear hq hli
      go_wp2
      go_ret
      exact ⟨_, rfl, HFIN.out⟩
end Go.Proofs.Ytklngdmpledgeaa.Sp

namespace Go.Proofs.Ytklngdmpledgeaa.Sp
open Go.RowKit Fr
attribute [local go_sem] Oper.semAt_some

set_option maxRecDepth 100000 in
set_option maxHeartbeats 4000000 in
theorem width_any (w : World) (n : Nat) (hn : n < 9223372036854775808) :
    Calls Try.prog 107 #[.int .i64 (n : Int)] w fun e w' => e = .returned (.int .i64 ((Oc.grp n).length : Int)) ∧ Below w.heap.size w w' := by
  obtain ⟨b, hbz⟩ : ∃ b, b = w.heap.size := ⟨_, rfl⟩
  have hw0 : Oc.WrR (w.alloc (.cells #[.int .i64 0, .slice none 0 0] 137)) b 0 [] (.slice none 0 0) := ⟨by rw [hbz]; exact block_new _ _, World.ownsRow_nil _ _ _ _, by simp⟩
  obtain ⟨hg1, hg2⟩ := Oc.grp_len n
  have HC := Lib.hid (Oc.count_any _ b 0 n [] _ hw0 hn (fun _ => by simp; omega))
  have HB0 : Hid (Below b w (w.alloc (.cells #[.int .i64 0, .slice none 0 0] 137))) := by rw [hbz]; exact Jo.alloc_below _ _
  have HW0 := Lib.hid hw0
  obtain ⟨k, hk⟩ : ∃ k, k = (Oc.grp n).length := ⟨_, rfl⟩
  rw [← hk]
  have HK := Lib.hid hk
  subst hbz
  clear hw0 hg1 hg2 hk
  go_enter Try.func107, Try.ntmps107
  go_wp2_with (first
    | (go_at_call 93; (with_reducible refine HDN.out.mono ?_); rintro e w3 ⟨A3, c3, rfl, ho3, hb3⟩
       have HB3 : Hid (Below w.heap.size w w3) := HB2.out.trans (hb3.mono HB2.out.size)
       clear ho3 hb3)
    | (go_at_call 91; (with_reducible refine HC.out.mono ?_); rintro e w2 ⟨rfl, h2⟩
       obtain ⟨v2, hw2, hf2⟩ := h2
       have hw2' : Oc.WrR w2 w.heap.size 0 (Oc.grp n) v2 := by
         have e : Oc.addB 0 [] (Oc.grp n) = Oc.grp n := by rw [Oc.addB_no]; rfl
         rw [e] at hw2; exact hw2
       have HB2 : Hid (Below w.heap.size w w2) := HB0.out.trans (hf2.below HW0.out (Nat.le_refl _))
       have hdn := Oc.wdone_any w2 w.heap.size 0 (Oc.grp n) v2 hw2'
       rw [← HK.out] at hdn
       have HDN := Lib.hid hdn
       clear hw2 hf2 hw2' hdn))
  go_ret
  exact ⟨rfl, HB3.out⟩
end Go.Proofs.Ytklngdmpledgeaa.Sp

namespace Go.Proofs.Ytklngdmpledgeaa.Sp
open Go.RowKit Fr
attribute [local go_sem] Oper.semAt_some

theorem width_at (w : World) (n k : Nat) (hn : n < 9223372036854775808) (hk : k = (Oc.grp n).length) :
    Calls Try.prog 107 #[.int .i64 (n : Int)] w fun e w' => e = .returned (.int .i64 (k : Int)) ∧ Below w.heap.size w w' := by
  rw [hk]; exact width_any w n hn
set_option maxRecDepth 100000 in
set_option maxHeartbeats 4000000 in
theorem size_any (w : World) (A : Option Addr) (n c : Nat) (ls : List (List Int)) (h : RowsA w (.slice A n c) ls) (hb : ∀ l ∈ ls, l.length ≤ 2000000) (hn : n ≤ 2000000) :
    Calls Try.prog 56 #[.slice A n c] w fun e w' => e = .returned (.int .i64 (sizeE ls)) ∧ Below w.heap.size w w' := by
  have hl := rows_len h
  obtain ⟨z, hz⟩ : ∃ z, z = sizeE ls := ⟨_, rfl⟩
  rw [← hz]
  have HZ := Lib.hid hz
  have HH := Lib.hid h
  have HL := Lib.hid hl
  have HBB := Lib.hid hb
  clear h hl hb hz
  by_cases t1 : (10000 : Int) < (n : Int)
  · have hz2 : z = -1 := by
      rw [HZ.out]; unfold sizeE fitsS
      rw [if_neg (by rw [decide_eq_true_eq]; have := HL.out; omega)]
    have HZ2 := Lib.hid hz2
    clear hz2
    go_enter Try.func56, Try.ntmps56
    go_wp2
    go_ret
    exact ⟨by rw [HZ2.out]; rfl, Below.refl _ _⟩
  · obtain ⟨k0, hk0⟩ : ∃ k0, k0 = (Oc.grp n).length := ⟨_, rfl⟩
    obtain ⟨hg1, hg2⟩ := Oc.grp_len n
    rw [← hk0] at hg1 hg2
    have hw0 : IntKind.i64.wrap (8 + (k0 : Int)) = ((8 + k0 : Nat) : Int) := by rw [IntKind.wrap_i64]; omega
    obtain ⟨p0, hp0⟩ : ∃ p0, p0 = 8 + k0 := ⟨_, rfl⟩
    rw [← hp0] at hw0
    have HK0 := Lib.hid hk0
    have HP0 : Hid (p0 = part ls 0 ∧ p0 ≤ 18) := ⟨by rw [part_zero, ← HL.out, ← hk0]; exact hp0, by omega⟩
    clear hk0 hg1 hg2 hp0
    go_enter Try.func56, Try.ntmps56
    go_wp2_with (go_at_call 107; (with_reducible refine (width_at w n k0 (by omega) HK0.out).mono ?_); rintro e w1 ⟨rfl, hb1⟩; have HB1 := Lib.hid hb1; clear hb1)
    go_loopg [3, 15] n (fun (gh : Nat) s3 s15 wx => ∃ (i p : Nat), gh = n - i ∧ i ≤ n ∧ s3 = .int .i64 (p : Int) ∧ s15 = .int .i64 (i : Int) ∧ Hid (Below w.heap.size w wx) ∧ Hid (p = part ls i) ∧ p ≤ 1048576)
    case atStart => exact ⟨0, p0, rfl, Nat.zero_le _, rfl, rfl, HB1.out, HP0.out.1, by have := HP0.out.2; omega⟩
    case round =>
      obtain ⟨i, p, rfl, hi, rfl, rfl, HB, HP, hp⟩ := hrel
      by_cases hlt : i < n
      · have t2 : (i : Int) < (n : Int) := by omega
        have t3 : (0 : Int) ≤ (i : Int) := by omega
        obtain ⟨g, o, Au, q, cu, l, rfl, hli, hq, hc, hba⟩ := rows_at (HH.out.below HB.out) hlt
        obtain ⟨k, hk⟩ : ∃ k, k = (Oc.grp q).length := ⟨_, rfl⟩
        obtain ⟨hg1, hg2⟩ := Oc.grp_len q
        rw [← hk] at hg1 hg2
        have hq2 : q ≤ 2000000 := by rw [hq]; exact HBB.out l (List.mem_of_getElem? hli)
        obtain ⟨s, hs⟩ : ∃ s, s = k + q := ⟨_, rfl⟩
        obtain ⟨p', hp'⟩ : ∃ p', p' = p + s := ⟨_, rfl⟩
        have hw1 : IntKind.i64.wrap ((k : Int) + (q : Int)) = (s : Int) := by rw [IntKind.wrap_i64]; omega
        have hw2 : IntKind.i64.wrap ((p : Int) + (s : Int)) = (p' : Int) := by rw [IntKind.wrap_i64]; omega
        have HPP : Hid (p' = part ls (i + 1)) := by
          show p' = _
          rw [part_succ hli, hp', HP.out, hs, hk, hq]
        have HK := Lib.hid hk
        have HQ2 := Lib.hid hq2
        clear hk hg1 hg2 hs hp' hba hli hq hq2
        by_cases t4 : (1048576 : Int) < (p' : Int)
        · have hz2 : z = -1 := by
            rw [HZ.out]; unfold sizeE fitsS
            have := part_mono ls (i := i + 1) (by have := HL.out; omega)
            rw [← HPP.out] at this
            rw [if_neg (by rw [decide_eq_true_eq]; omega)]
          have HZ2 := Lib.hid hz2
          clear hz2
          go_wp2_with (go_at_call 107; (with_reducible refine (width_at _ q k (by have := HQ2.out; omega) HK.out).mono ?_); rintro e w2 ⟨rfl, hb2⟩; have HB2 := Lib.hid (HB.out.trans (hb2.mono HB.out.size)); clear hb2)
          go_ret
          exact ⟨by rw [HZ2.out]; rfl, HB2.out⟩
        · go_wp2_with (go_at_call 107; (with_reducible refine (width_at _ q k (by have := HQ2.out; omega) HK.out).mono ?_); rintro e w2 ⟨rfl, hb2⟩; have HB2 := Lib.hid (HB.out.trans (hb2.mono HB.out.size)); clear hb2)
          go_roundg (n - (i + 1))
          case measure => omega
          case rel => exact ⟨i + 1, p', rfl, hlt, rfl, by go_num, HB2.out, HPP.out, by omega⟩
      · have hil : i = n := by omega
        subst hil
        have t2 : ¬ (i : Int) < (i : Int) := by omega
        have hz2 : z = (p : Int) := by
          have h5 := HP.out
          rw [HL.out, part_all] at h5
          rw [HZ.out]; unfold sizeE fitsS
          rw [if_pos (by rw [decide_eq_true_eq]; have := HL.out; omega), h5]
        have HZ2 := Lib.hid hz2
        clear hz2
        go_wp2
        go_ret
        exact ⟨by rw [HZ2.out]; rfl, HB.out⟩
end Go.Proofs.Ytklngdmpledgeaa.Sp
