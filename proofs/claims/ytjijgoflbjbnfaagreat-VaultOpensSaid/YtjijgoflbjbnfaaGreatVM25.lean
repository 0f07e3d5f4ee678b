/-
  The contracts of list and Decode. Conditions: at most two million bytes.
-/
import Derived.Test.YtjijgoflbjbnfaaGreatVM24
import Derived.Test.YtjijgoflbjbnfaaGreatVM8
import Derived.Test.YtjijgoflbjbnfaaGreatVM6
namespace Go.Proofs.YtjijgoflbjbnfaaGreat.Sp
open Go.RowKit Fr
attribute [local go_sem] Oper.semAt_some

/-- So far: the mistake er, the records acc, what is left r; so many to go. -/
structure LR (w : World) (b : Nat) (L : List Int) (n : Nat) (W : World) (v : Value) (er : Int) (acc : List (List Int)) (r : List Int) : Prop where
  li : LI w b W v acc
  rd : ∃ u, Oc.RdR W b er r u
  ok : er = 0 → allS L = ((lstS n r).1, acc ++ (lstS n r).2.1, (lstS n r).2.2)
  no : ¬ er = 0 → allS L = (er, acc, r)
  few : acc.length + n ≤ 10000
theorem cnt_few (L : List Int) : (cntS L).2.1 ≤ 10000 ∧ (¬ (cntS L).1 = 0 → (cntS L).2.1 = 0 ∧ (cntS L).2.2 = L) := by
  unfold cntS
  split
  · exact ⟨Nat.zero_le _, fun _ => ⟨rfl, rfl⟩⟩
  · split
    · exact ⟨Nat.zero_le _, fun _ => ⟨rfl, rfl⟩⟩
    · rename_i h1 h2
      refine ⟨?_, fun h => absurd rfl h⟩
      have : ¬ ¬ ((Oc.rg L).2.1 : Int) ≤ 10000 := h2
      show (Oc.rg L).2.1 ≤ 10000
      omega
theorem LR.start {w W : World} {b : Nat} {L : List Int} (h : Oc.RdTo b w (cntS L).1 (cntS L).2.2 W) : LR w b L (cntS L).2.1 W (.slice none 0 0) (cntS L).1 [] (cntS L).2.2 := by
  obtain ⟨u, h1, h2⟩ := h
  have hc := cnt_few L
  refine ⟨LI.nil h2, ⟨u, h1⟩, fun e => ?_, fun e => ?_, by simp; exact hc.1⟩
  · unfold allS; rw [if_pos e]; rfl
  · unfold allS; rw [if_neg e, (hc.2 e).2]
theorem LR.next {w W W3 : World} {b n : Nat} {L r : List Int} {v u : Value} {acc : List (List Int)} (h : LR w b L (n + 1) W v 0 acc r) (hbw : b < w.heap.size) (hrd : Oc.RdTo b W (txt r).1 (txt r).2.2 W3) (hu : BAt W3 u (txt r).2.1) (hk : BK (fun k => W.heap.size ≤ k) u (txt r).2.1) (hu1 : u.oneCell' = true) :
    ∃ A m c W5, (Builtin.append_ #[31, 31] 31 #[v, .slice (some ⟨W3.heap.size, 0, none⟩) 1 1]).run Tryz.prog (W3.alloc (.cells #[u] 32)) = .ok (.slice A m c) W5 ∧ LR w b L n W5 (.slice A m c) (txt r).1 (acc ++ [(txt r).2.1]) (txt r).2.2 := by
  obtain ⟨hli, hrd0, hok, hno, hfew⟩ := h
  obtain ⟨u3, hr3, hg3⟩ := hrd
  obtain ⟨A, m, c, W5, h1, h2, h3⟩ := hli.step hbw hg3 hu hk hu1 (by omega)
  refine ⟨A, m, c, W5, h1, h2, ⟨u3, hr3.upto h3⟩, fun e => ?_, fun e => ?_, by rw [List.length_append]; simp; omega⟩
  · have h4 := hok rfl
    unfold lstS at h4
    rw [if_pos e] at h4
    rw [h4]; simp
  · have h4 := hok rfl
    unfold lstS at h4
    rw [if_neg e] at h4
    rw [h4, (txt_err e).1, (txt_err e).2]
theorem LR.fin {w W : World} {b n : Nat} {L : List Int} {v : Value} {er : Int} {acc : List (List Int)} {r : List Int} (h : LR w b L n W v er acc r) (hn : n = 0 ∨ ¬ er = 0) : RowsF w.heap.size W v (allS L).2.1 ∧ Oc.RdTo b w (allS L).1 (allS L).2.2 W := by
  obtain ⟨hli, ⟨u, hrd⟩, hok, hno, hfew⟩ := h
  have e : allS L = (er, acc, r) := by
    by_cases he : er = 0
    · have hn0 : n = 0 := hn.resolve_right (fun h => h he)
      rw [hok he, hn0, he]
      simp [lstS]
    · exact hno he
  rw [e]
  exact ⟨hli.toF, u, hrd, hli.bel⟩
theorem okO {w : World} {b : Nat} {er : Int} {l : List Int} {v : Value} (h : Oc.RdR w b er l v) (q : Bool) (hq : q = decide (er = 0)) : Calls Tryz.prog 115 #[.pointer (some ⟨b, 0, none⟩)] w fun e w' => e = .returned (.bool q) ∧ w = w' := by
  by_cases he : er = 0
  · subst he; subst hq; exact Jo.ok_yes h
  · have e : q = false := by rw [hq]; exact decide_eq_false he
    rw [e]; exact Jo.ok_no h he
theorem w_lt {w W : World} {b : Nat} (h : w.grownBy W (some b)) {B : Nat} {o : Obj} (hB : w.heap[B]? = some o) (hne : B ≠ b) : W.heap[B]? = some o := block_grown hB h hne
set_option maxRecDepth 100000 in
set_option maxHeartbeats 8000000 in
theorem list_any {w : World} {b B : Nat} {L : List Int} {v : Value} (h : Oc.RdR w b 0 L v) (hB : w.heap[B]? = some (.cells #[.pointer (some ⟨b, 0, none⟩)] 169 (0, 0))) (hne : B ≠ b) :
    Calls Tryz.prog 118 #[.pointer (some ⟨b, 0, none⟩), .func (.func 119) #[] #[.pointer (some ⟨B, 0, none⟩)]] w fun e w' => ∃ vr, e = .returned vr ∧ RowsF w.heap.size w' vr (allS L).2.1 ∧ Oc.RdTo b w (allS L).1 (allS L).2.2 w' := by
  have hbw := h.lt
  obtain ⟨cn, hcn⟩ : ∃ cn, cn = (cntS L).2.1 := ⟨_, rfl⟩
  have hc := count_at h
  rw [← hcn] at hc
  have eg : ∀ args w, (callFunc 119 args).run Tryz.prog w = .ok (.enter 119 args) w := enters_of Tryz.func119 (by kernel_rfl) rfl
  have HC := Lib.hid hc
  have HBW := Lib.hid hbw
  have HB := Lib.hid hB
  have HNE := Lib.hid hne
  have HCN := Lib.hid hcn
  have hcf := (cnt_few L).1
  rw [← hcn] at hcf
  clear h hB hne hc hbw hcn
  go_enter Tryz.func118, Tryz.ntmps118
  go_wp2_with (go_at_call 113; (with_reducible refine HC.out.mono ?_); rintro e w1 ⟨rfl, hr1⟩
               have HL1 : Hid (∃ er r, LR w b L cn w1 (.slice none 0 0) er [] r) := by
                 rw [HCN.out]; exact ⟨_, _, LR.start hr1⟩
               clear hr1)
  go_loopg [5, 6] cn (fun (gh : Nat) s5 s6 wx => s6 = .int .i64 (gh : Int) ∧ gh ≤ 10000 ∧ Hid (∃ er acc r, LR w b L gh wx s5 er acc r))
  case atStart =>
    obtain ⟨er, r, hl⟩ := HL1.out
    exact ⟨rfl, hcf, er, [], r, hl⟩
  case round =>
    obtain ⟨rfl, hgh, HI⟩ := hrel
    obtain ⟨er, acc, r, hlr⟩ := HI.out
    have HLR := Lib.hid hlr
    obtain ⟨hli, ⟨u, hrd⟩, hok, hno, hfew⟩ := hlr
    obtain ⟨q, hq⟩ : ∃ q, q = decide (er = 0) := ⟨_, rfl⟩
    have HOK := Lib.hid (okO hrd q hq)
    have HRD := Lib.hid hrd
    have HQ := Lib.hid hq
    have HLI := Lib.hid hli
    clear hrd hok hno HI
    by_cases t1 : (0 : Int) < (gk : Int)
    · cases q
      · have he : ¬ er = 0 := of_decide_eq_false HQ.out.symm
        have HFIN := Lib.hid (HLR.out.fin (.inr he))
        clear hq he hli
        go_wp2_with (go_at_call 115; (with_reducible refine HOK.out.mono ?_); rintro e w2 ⟨rfl, rfl⟩)
        go_ret
        exact ⟨_, rfl, HFIN.out⟩
      · have he : er = 0 := of_decide_eq_true HQ.out.symm
        subst he
        obtain ⟨n, rfl⟩ : ∃ n, gk = n + 1 := ⟨gk - 1, by omega⟩
        have hw9 : IntKind.i64.wrap (((n + 1 : Nat) : Int) - 1) = (n : Int) := by rw [IntKind.wrap_i64]; omega
        have HB2 := Lib.hid (block_grown HB.out hli.bel HNE.out)
        have HD := Lib.hid (decode1_any HRD.out HB2.out)
        clear hq hli
        go_wp2_with (first
          | (at_builtin; refine Lib.wpList_append_run _ rfl _ _ 31 31 rfl _ _ rfl rfl _ _ HR.out ?_)
          | (go_at_fn 119; (with_reducible refine HD.out.mono ?_); rintro e w3 ⟨g3, k3, c3, rfl, hg3, hk3, hba3, hrd3⟩
             obtain ⟨A5, m5, c5, w5, hr5, hlr5⟩ := HLR.out.next (u := .slice (some ⟨g3, 0, none⟩) k3 c3) HBW.out hrd3 hba3 (fun hp a n c e => by cases e; exact hg3) rfl
             have HR := Lib.hid hr5
             have HLR5 := Lib.hid hlr5
             clear hg3 hk3 hba3 hrd3 hr5 hlr5)
          | (go_at_call 115; (with_reducible refine HOK.out.mono ?_); rintro e w2 ⟨rfl, rfl⟩))
        go_roundg n
        case measure => omega
        case rel => exact ⟨by first | rfl | go_num | rw [hw9], by omega, _, _, _, HLR5.out⟩
    · have h0 : gk = 0 := by omega
      subst h0
      have HFIN := Lib.hid (HLR.out.fin (.inl rfl))
      clear hq hli
      go_wp2
      go_ret
      exact ⟨_, rfl, HFIN.out⟩
end Go.Proofs.YtjijgoflbjbnfaaGreat.Sp

namespace Go.Proofs.YtjijgoflbjbnfaaGreat.Sp
open Go.RowKit Fr
attribute [local go_sem] Oper.semAt_some

set_option maxRecDepth 100000 in
set_option maxHeartbeats 4000000 in
theorem width_any (w : World) (n : Nat) (hn : n < 9223372036854775808) :
    Calls Tryz.prog 153 #[.int .i64 (n : Int)] w fun e w' => e = .returned (.int .i64 ((Oc.grp n).length : Int)) ∧ Below w.heap.size w w' := by
  obtain ⟨b, hbz⟩ : ∃ b, b = w.heap.size := ⟨_, rfl⟩
  have hw0 : Oc.WrR (w.alloc (.cells #[.int .i64 0, .slice none 0 0] 146)) b 0 [] (.slice none 0 0) := ⟨by rw [hbz]; exact block_new _ _, World.ownsRow_nil _ _ _ _, by simp⟩
  obtain ⟨hg1, hg2⟩ := Oc.grp_len n
  have HC := Lib.hid (Oc.count_any _ b 0 n [] _ hw0 hn (fun _ => by simp; omega))
  have HB0 : Hid (Below b w (w.alloc (.cells #[.int .i64 0, .slice none 0 0] 146))) := by rw [hbz]; exact Jo.alloc_below _ _
  have HW0 := Lib.hid hw0
  obtain ⟨k, hk⟩ : ∃ k, k = (Oc.grp n).length := ⟨_, rfl⟩
  rw [← hk]
  have HK := Lib.hid hk
  subst hbz
  clear hw0 hg1 hg2 hk
  go_enter Tryz.func153, Tryz.ntmps153
  go_wp2_with (first
    | (go_at_call 87; (with_reducible refine HDN.out.mono ?_); rintro e w3 ⟨A3, c3, rfl, ho3, hb3⟩
       have HB3 : Hid (Below w.heap.size w w3) := HB2.out.trans (hb3.mono HB2.out.size)
       clear ho3 hb3)
    | (go_at_call 86; (with_reducible refine HC.out.mono ?_); rintro e w2 ⟨rfl, h2⟩
       obtain ⟨v2, hw2, hf2⟩ := h2
       have hw2' : Oc.WrR w2 w.heap.size 0 (Oc.grp n) v2 := by
         have e : Oc.addB 0 [] (Oc.grp n) = Oc.grp n := by rw [Oc.addB_no]; rfl
         rw [e] at hw2; exact hw2
       have HB2 : Hid (Below w.heap.size w w2) := HB0.out.trans (hf2.below HW0.out (Nat.le_refl _))
       have hdn := Oc.wdone_any w2 w.heap.size 0 (Oc.grp n) v2 hw2'
       rw [← HK.out] at hdn
       have HDN := Lib.hid hdn
       clear hw2 hf2 hw2' hdn))
  go_ret
  exact ⟨rfl, HB3.out⟩
end Go.Proofs.YtjijgoflbjbnfaaGreat.Sp

namespace Go.Proofs.YtjijgoflbjbnfaaGreat.Sp
open Go.RowKit Fr
attribute [local go_sem] Oper.semAt_some

theorem width_at (w : World) (n k : Nat) (hn : n < 9223372036854775808) (hk : k = (Oc.grp n).length) :
    Calls Tryz.prog 153 #[.int .i64 (n : Int)] w fun e w' => e = .returned (.int .i64 (k : Int)) ∧ Below w.heap.size w w' := by
  rw [hk]; exact width_any w n hn
set_option maxRecDepth 100000 in
set_option maxHeartbeats 4000000 in
theorem size_any (w : World) (A : Option Addr) (n c : Nat) (ls : List (List Int)) (h : RowsA w (.slice A n c) ls) (hb : ∀ l ∈ ls, l.length ≤ 2000000) (hn : n ≤ 2000000) :
    Calls Tryz.prog 127 #[.slice A n c] w fun e w' => e = .returned (.int .i64 (sizeE ls)) ∧ Below w.heap.size w w' := by
  have hl := rows_len h
  obtain ⟨z, hz⟩ : ∃ z, z = sizeE ls := ⟨_, rfl⟩
  rw [← hz]
  have HZ := Lib.hid hz
  have HH := Lib.hid h
  have HL := Lib.hid hl
  have HBB := Lib.hid hb
  clear h hl hb hz
  by_cases t1 : (10000 : Int) < (n : Int)
  · have hz2 : z = -1 := by
      rw [HZ.out]; unfold sizeE fitsS
      rw [if_neg (by rw [decide_eq_true_eq]; have := HL.out; omega)]
    have HZ2 := Lib.hid hz2
    clear hz2
    go_enter Tryz.func127, Tryz.ntmps127
    go_wp2
    go_ret
    exact ⟨by rw [HZ2.out]; rfl, Below.refl _ _⟩
  · obtain ⟨k0, hk0⟩ : ∃ k0, k0 = (Oc.grp n).length := ⟨_, rfl⟩
    obtain ⟨hg1, hg2⟩ := Oc.grp_len n
    rw [← hk0] at hg1 hg2
    have hw0 : IntKind.i64.wrap (8 + (k0 : Int)) = ((8 + k0 : Nat) : Int) := by rw [IntKind.wrap_i64]; omega
    obtain ⟨p0, hp0⟩ : ∃ p0, p0 = 8 + k0 := ⟨_, rfl⟩
    rw [← hp0] at hw0
    have HK0 := Lib.hid hk0
    have HP0 : Hid (p0 = part ls 0 ∧ p0 ≤ 18) := ⟨by rw [part_zero, ← HL.out, ← hk0]; exact hp0, by omega⟩
    clear hk0 hg1 hg2 hp0
    go_enter Tryz.func127, Tryz.ntmps127
    go_wp2_with (go_at_call 153; (with_reducible refine (width_at w n k0 (by omega) HK0.out).mono ?_); rintro e w1 ⟨rfl, hb1⟩; have HB1 := Lib.hid hb1; clear hb1)
    go_loopg [3, 15] n (fun (gh : Nat) s3 s15 wx => ∃ (i p : Nat), gh = n - i ∧ i ≤ n ∧ s3 = .int .i64 (p : Int) ∧ s15 = .int .i64 (i : Int) ∧ Hid (Below w.heap.size w wx) ∧ Hid (p = part ls i) ∧ p ≤ 1048576)
    case atStart => exact ⟨0, p0, rfl, Nat.zero_le _, rfl, rfl, HB1.out, HP0.out.1, by have := HP0.out.2; omega⟩
    case round =>
      obtain ⟨i, p, rfl, hi, rfl, rfl, HB, HP, hp⟩ := hrel
      by_cases hlt : i < n
      · have t2 : (i : Int) < (n : Int) := by omega
        have t3 : (0 : Int) ≤ (i : Int) := by omega
        obtain ⟨g, o, Au, q, cu, l, rfl, hli, hq, hc, hba⟩ := rows_at (HH.out.below HB.out) hlt
        obtain ⟨k, hk⟩ : ∃ k, k = (Oc.grp q).length := ⟨_, rfl⟩
        obtain ⟨hg1, hg2⟩ := Oc.grp_len q
        rw [← hk] at hg1 hg2
        have hq2 : q ≤ 2000000 := by rw [hq]; exact HBB.out l (List.mem_of_getElem? hli)
        obtain ⟨s, hs⟩ : ∃ s, s = k + q := ⟨_, rfl⟩
        obtain ⟨p', hp'⟩ : ∃ p', p' = p + s := ⟨_, rfl⟩
        have hw1 : IntKind.i64.wrap ((k : Int) + (q : Int)) = (s : Int) := by rw [IntKind.wrap_i64]; omega
        have hw2 : IntKind.i64.wrap ((p : Int) + (s : Int)) = (p' : Int) := by rw [IntKind.wrap_i64]; omega
        have HPP : Hid (p' = part ls (i + 1)) := by
          show p' = _
          rw [part_succ hli, hp', HP.out, hs, hk, hq]
        have HK := Lib.hid hk
        have HQ2 := Lib.hid hq2
        clear hk hg1 hg2 hs hp' hba hli hq hq2
        by_cases t4 : (1048576 : Int) < (p' : Int)
        · have hz2 : z = -1 := by
            rw [HZ.out]; unfold sizeE fitsS
            have := part_mono ls (i := i + 1) (by have := HL.out; omega)
            rw [← HPP.out] at this
            rw [if_neg (by rw [decide_eq_true_eq]; omega)]
          have HZ2 := Lib.hid hz2
          clear hz2
          go_wp2_with (go_at_call 153; (with_reducible refine (width_at _ q k (by have := HQ2.out; omega) HK.out).mono ?_); rintro e w2 ⟨rfl, hb2⟩; have HB2 := Lib.hid (HB.out.trans (hb2.mono HB.out.size)); clear hb2)
          go_ret
          exact ⟨by rw [HZ2.out]; rfl, HB2.out⟩
        · go_wp2_with (go_at_call 153; (with_reducible refine (width_at _ q k (by have := HQ2.out; omega) HK.out).mono ?_); rintro e w2 ⟨rfl, hb2⟩; have HB2 := Lib.hid (HB.out.trans (hb2.mono HB.out.size)); clear hb2)
          go_roundg (n - (i + 1))
          case measure => omega
          case rel => exact ⟨i + 1, p', rfl, hlt, rfl, by go_num, HB2.out, HPP.out, by omega⟩
      · have hil : i = n := by omega
        subst hil
        have t2 : ¬ (i : Int) < (i : Int) := by omega
        have hz2 : z = (p : Int) := by
          have h5 := HP.out
          rw [HL.out, part_all] at h5
          rw [HZ.out]; unfold sizeE fitsS
          rw [if_pos (by rw [decide_eq_true_eq]; have := HL.out; omega), h5]
        have HZ2 := Lib.hid hz2
        clear hz2
        go_wp2
        go_ret
        exact ⟨by rw [HZ2.out]; rfl, HB.out⟩
end Go.Proofs.YtjijgoflbjbnfaaGreat.Sp

namespace Go.Proofs.YtjijgoflbjbnfaaGreat.Sp
open Go.RowKit Fr
attribute [local go_sem] Oper.semAt_some

set_option maxRecDepth 100000 in
set_option maxHeartbeats 4000000 in
theorem encode_bad (w : World) (A : Option Addr) (n c : Nat) (ls : List (List Int)) (h : RowsA w (.slice A n c) ls) (hb : ∀ l ∈ ls, l.length ≤ 2000000) (hn : n ≤ 2000000) (hf : fitsS ls = false) :
    Calls Tryz.prog 91 #[.slice A n c] w fun e w' => e = .returned (.tuple #[.slice none 0 0, .int .i64 2]) ∧ Below w.heap.size w w' := by
  have hs := size_any w A n c ls h hb hn
  have e : sizeE ls = -1 := by unfold sizeE; rw [hf]; rfl
  rw [e] at hs
  have HS := Lib.hid hs
  clear hs e h hb hn hf
  go_enter Tryz.func91, Tryz.ntmps91
  go_wp2_with (go_at_call 127; (with_reducible refine HS.out.mono ?_); rintro e w1 ⟨rfl, hb1⟩; have HB1 := Lib.hid hb1; clear hb1)
  go_ret2
  exact ⟨rfl, HB1.out⟩
/-- While Encode writes: the writer holds the count and the first records. -/
def EnI (w : World) (b : Nat) (ls : List (List Int)) (i : Nat) (wx : World) : Prop := ∃ v, Oc.WrR wx b 0 (Oc.grp ls.length ++ flat (ls.take i)) v ∧ Below w.heap.size w wx
set_option maxRecDepth 100000 in
set_option maxHeartbeats 8000000 in
theorem encode_ok (w : World) (A : Option Addr) (n c : Nat) (ls : List (List Int)) (h : RowsA w (.slice A n c) ls) (hb : ∀ l ∈ ls, bok l ∧ l.length ≤ 2000000) (hf : fitsS ls = true) :
    Calls Tryz.prog 91 #[.slice A n c] w fun e w' => ∃ A' q c', e = .returned (.tuple #[.slice A' q c', .int .i64 0]) ∧ q = tot ls ∧ (BAt w' (.slice A' q c') (encS ls) ∧ BK (fun k => w.heap.size ≤ k) (.slice A' q c') (encS ls)) ∧ Below w.heap.size w w' := by
  obtain ⟨hn, ht⟩ := of_decide_eq_true hf
  have hl := rows_len h
  have hs := size_any w A n c ls h (fun l hl => (hb l hl).2) (by omega)
  have e : sizeE ls = (tot ls : Int) := by unfold sizeE; rw [hf]; rfl
  rw [e] at hs
  obtain ⟨z, hz⟩ : ∃ z, z = tot ls := ⟨_, rfl⟩
  rw [← hz] at hs
  have hz8 : z = (bodyS ls).length + 8 := hz
  obtain ⟨m, hm⟩ : ∃ m, m = (bodyS ls).length := ⟨_, rfl⟩
  rw [← hz]
  have tz : ¬ (z : Int) < 0 := by omega
  have HS := Lib.hid hs
  have HH := Lib.hid h
  have HL := Lib.hid hl
  have HBB := Lib.hid hb
  have HM : Hid (m = (bodyS ls).length ∧ z = m + 8 ∧ m ≤ 1048568 ∧ n ≤ 10000) := ⟨hm, by omega, by omega, by omega⟩
  have hpart : ∀ i, i ≤ n → (Oc.grp ls.length ++ flat (ls.take i)).length + 8 ≤ 1048576 := fun i hi => by
    have h1 := part_mono ls (i := i) (by omega)
    unfold part at h1
    rw [List.length_append]; omega
  have HPT := Lib.hid hpart
  have HZ := Lib.hid hz
  clear h hl hb hf hs hm hn ht e hz8 hpart hz
  go_enter Tryz.func91, Tryz.ntmps91
  go_upto_region 5 with (first
    | (go_at_call 86; (with_reducible refine HC.out.mono ?_); rintro e w2 ⟨rfl, v2, hw2, hf2⟩
       have HE : Hid (EnI w w1.heap.size ls 0 w2) := by
         have e : Oc.addB 0 [] (Oc.grp n) = Oc.grp ls.length ++ flat (ls.take 0) := by rw [Oc.addB_no, HL.out]; simp [flat]
         rw [e] at hw2
         exact ⟨v2, hw2, HB0.out.trans (hf2.below HW0.out HB1.out.size)⟩
       clear hw2 hf2)
    | (go_at_call 127; (with_reducible refine HS.out.mono ?_); rintro e w1 ⟨rfl, hb1⟩
       have HB1 := Lib.hid hb1
       have hw0 : Oc.WrR (w1.alloc (.cells #[.int .i64 0, .slice none 0 0] 146)) w1.heap.size 0 [] (.slice none 0 0) := ⟨block_new _ _, World.ownsRow_nil _ _ _ _, by simp⟩
       have HW0 := Lib.hid hw0
       have HB0 : Hid (Below w.heap.size w (w1.alloc (.cells #[.int .i64 0, .slice none 0 0] 146))) := hb1.trans ((Jo.alloc_below w1 _).mono hb1.size)
       have HC := Lib.hid (Oc.count_any _ w1.heap.size 0 n [] _ hw0 (by have := HM.out; omega) (fun _ => by have := (Oc.grp_len n).1; simp; omega))
       clear hb1 hw0))
  clear HC HW0 HB0 HS
  obtain ⟨b, hbz⟩ : ∃ b, b = w1.heap.size := ⟨_, rfl⟩
  rw [← hbz] at HE
  rw [← hbz]
  have HBZ : Hid (w.heap.size ≤ b) := by rw [hbz]; exact HB1.out.size
  clear hbz HB1
  go_wp2
  go_loopg [17] n (fun (gh : Nat) s17 wx => ∃ i : Nat, gh = n - i ∧ i ≤ n ∧ s17 = .int .i64 (i : Int) ∧ Hid (EnI w b ls i wx))
  case atStart => exact ⟨0, rfl, Nat.zero_le _, rfl, HE⟩
  case round =>
    obtain ⟨i, rfl, hi, rfl, HI⟩ := hrel
    by_cases hlt : i < n
    · have t2 : (i : Int) < (n : Int) := by omega
      have t3 : (0 : Int) ≤ (i : Int) := by omega
      have HLT := Lib.hid hlt
      have hw9 : IntKind.i64.wrap ((i : Int) + 1) = ((i + 1 : Nat) : Int) := by have := HM.out.2.2.2; rw [IntKind.wrap_i64]; omega
      obtain ⟨vx, hwx, hbx⟩ := HI.out
      obtain ⟨g, o, Au, q, cu, l, rfl, hli, hq, hc, hba⟩ := rows_at (HH.out.below hbx) hlt
      have hbl := HBB.out l (List.mem_of_getElem? hli)
      have hcv := Oc.conv_any (Jo.oc_at hba) hbl.1
      have HX : Hid (ls[i]? = some l ∧ bok l ∧ l.length ≤ 2000000 ∧ Oc.WrR wr b 0 (Oc.grp ls.length ++ flat (ls.take i)) vx ∧ Below w.heap.size w wr) := ⟨hli, hbl.1, hbl.2, hwx, hbx⟩
      clear hlt hwx hbx hli hq hba hbl
      go_wp2_with (first
        | (go_at_call 128
           have hal := Jo.alloc_below wr (.cells #[.string (Oc.strOf l)] 9)
           have hw3 := HX.out.2.2.2.1.below hal
           have h8 := HPT.out (i + 1) HLT.out
           rw [flat_snoc HX.out.1] at h8
           have e5 : (Oc.strOf l).size = l.length := Oc.strOf_len l
           have htx := Oc.text_ok _ b wr.heap.size (Oc.strOf l) _ vx hw3 (block_new wr _) (by rw [e5]; simp only [List.length_append, recB] at h8 ⊢; omega)
           (with_reducible refine htx.mono ?_); rintro e w3 ⟨rfl, v3, hv3, hf3⟩
           have HE3 : Hid (EnI w b ls (i + 1) w3) := by
             rw [e5, Oc.sb_strOf HX.out.2.1] at hv3
             refine ⟨v3, ?_, HX.out.2.2.2.2.trans ((hal.mono HX.out.2.2.2.2.size).trans (hf3.below hw3 HBZ.out))⟩
             rw [flat_snoc HX.out.1, ← List.append_assoc]
             exact hv3
           clear hal hw3 h8 e5 htx hv3 hf3))
      go_roundg (n - (i + 1))
      case measure => have := HLT.out; omega
      case rel => exact ⟨i + 1, rfl, HLT.out, by first | rfl | go_num | rw [hw9], HE3.out⟩
    · have hil : i = n := by omega
      subst hil
      have t2 : ¬ (i : Int) < (i : Int) := by omega
      obtain ⟨vx, hwx, hbx⟩ := HI.out
      have eB : Oc.grp ls.length ++ flat (ls.take i) = bodyS ls := by rw [HL.out, List.take_length]; rfl
      rw [eB] at hwx
      have hdn := Oc.wdone_any wr b 0 (bodyS ls) vx hwx
      rw [← HM.out.1] at hdn
      have HDN := Lib.hid hdn
      have HBX := Lib.hid hbx
      clear hwx hbx eB hdn
      go_wp2_with (first
        | (go_at_call 88; (with_reducible refine HMK.out.mono ?_); rintro e w5 ⟨A5, c5, rfl, ha5, hb5⟩; have HA5 := Lib.hid ha5; have HB5 := Lib.hid (HB3.out.trans (hb5.mono HB3.out.size)); clear ha5 hb5)
        | (go_at_call 87; (with_reducible refine HDN.out.mono ?_); rintro e w3 ⟨A3, c3, rfl, ho3, hb3⟩
           have HB3 := Lib.hid (HBX.out.trans (hb3.mono HBX.out.size))
           have hm4 := Jo.make_atK w3 A3 m c3 z (bodyS ls) (BAt.of_own (by rw [← HM.out.1]; exact ho3)) (body_bok HBB.out (by have := HL.out; have := HM.out; omega)) HM.out.2.2.1 HM.out.2.1
           have HMK := Lib.hid hm4
           clear ho3 hb3 hm4))
      go_ret2
      exact ⟨A5, z, c5, rfl, rfl, ⟨HA5.out.1, fun hp a n c ha => Nat.le_trans HB3.out.size (HA5.out.2 hp a n c ha)⟩, HB5.out⟩
end Go.Proofs.YtjijgoflbjbnfaaGreat.Sp

namespace Go.Proofs.YtjijgoflbjbnfaaGreat.Sp
open Go.RowKit Fr
attribute [local go_sem] Oper.semAt_some

/-- What Decode tells of the bytes G. -/
def DecR (N : Nat) (G : List Int) (e : Ending) (w' : World) : Prop := ∃ A n c, e = .returned (.tuple #[.slice A n c, .int .i64 (decE G)]) ∧ RowsF N w' (.slice A n c) (decL G)
theorem rdone_at {w : World} {b : Nat} {er x : Int} {l : List Int} {v : Value} (h : Oc.RdR w b er l v) (hx : x = Oc.doneE er l) : Calls Tryz.prog 121 #[.pointer (some ⟨b, 0, none⟩)] w fun e w' => e = .returned (.int .i64 x) ∧ w = w' := by
  rw [hx]; exact Oc.rdone_any w b er l v h
set_option maxRecDepth 100000 in
set_option maxHeartbeats 8000000 in
theorem decode_any (w : World) (A : Option Addr) (q c : Nat) (G : List Int) (h : BAt w (.slice A q c) G) (hb : bok G) (hq : q ≤ 2000000) :
    Calls Tryz.prog 83 #[.slice A q c] w fun e w' => DecR w.heap.size G e w' ∧ Below w.heap.size w w' := by
  obtain ⟨m, hm⟩ : ∃ m, m = (opB G).length := ⟨_, rfl⟩
  obtain ⟨E, hE⟩ : ∃ E, E = opE G := ⟨_, rfl⟩
  have hbo : bok (opB G) := by
    unfold opB
    split
    · exact fun x hx => hb x (List.mem_of_mem_drop (List.mem_of_mem_take hx))
    · intro x hx; cases hx
  have hbl : (opB G).length ≤ 2000000 := by
    have hl := h.len.1
    unfold opB
    split
    · rw [List.length_take, List.length_drop]; omega
    · simp
  have HO := Lib.hid (open_at w A q c m E G (opB G) h hb hq rfl hm.symm hE.symm)
  obtain ⟨d, hd⟩ : ∃ d, d = decE G := ⟨_, rfl⟩
  have HD : Hid (d = decE G) := hd
  unfold DecR
  rw [← hd]
  have HE := Lib.hid hE
  have HBO := Lib.hid (And.intro hbo hbl)
  clear h hb hm hE hbo hbl hd
  by_cases he : E = 0
  · subst he
    have e0 : opE G = 0 := HE.out.symm
    have hde : d = Oc.doneE (allS (opB G)).1 (allS (opB G)).2.2 := by rw [HD.out]; unfold decE; rw [if_neg (fun h => h e0)]
    have HDE := Lib.hid hde
    clear hde e0
    go_enter Tryz.func83, Tryz.ntmps83
    go_upto_region 4 with (go_at_call 117; (with_reducible refine HO.out.mono ?_); rintro e w1 ⟨A1, c1, rfl, hb1, hbel1⟩; have HB1 := Lib.hid (And.intro hb1 hbel1); clear hb1 hbel1)
    have hrdx := Oc.read_any w1 _ (opB G) (Jo.oc_at HB1.out.1) HBO.out.1 HBO.out.2
    have HRDX := Lib.hid hrdx
    clear hrdx
    go_upto_region 7 with (first
      | (go_at_call 121; (with_reducible refine (rdone_at HR4.out HDE.out).mono ?_); rintro e w5 ⟨rfl, rfl⟩)
      | (go_at_call 118; (with_reducible refine HLS.out.mono ?_); rintro e w4 ⟨vr, rfl, hrows, u4, hr4, hg4⟩
         have HRW := Lib.hid hrows
         have HR4 := Lib.hid hr4
         have HB4 : Hid (Below w.heap.size w w4) := HB3.out.grown hg4 HB3.out.size (fun j hj => by cases hj; exact HBZ.out)
         have c4 := (block_cell (block_grown HBX.out hg4 HNE.out)).1
         clear hrows hr4 hg4)
      | (go_at_call 112; (with_reducible refine HRDX.out.mono ?_); rintro e w2 ⟨b, u, rfl, hbz, hr, hbl⟩
         have HBZ : Hid (w.heap.size ≤ b) := Nat.le_trans HB1.out.2.size hbz
         have hal := Jo.alloc_below w2 (.cells #[.pointer (some ⟨b, 0, none⟩)] 169)
         have HB3 : Hid (Below w.heap.size w (w2.alloc (.cells #[.pointer (some ⟨b, 0, none⟩)] 169))) := HB1.out.2.trans ((hbl.trans (hal.mono hbl.size)).mono HB1.out.2.size)
         have HNE : Hid (w2.heap.size ≠ b) := by have := hr.lt; show _ ≠ _; omega
         have HBX : Hid ((w2.alloc (.cells #[.pointer (some ⟨b, 0, none⟩)] 169)).heap[w2.heap.size]? = some (.cells #[.pointer (some ⟨b, 0, none⟩)] 169 (0, 0))) := block_new w2 _
         have HLS := Lib.hid (list_any (hr.below hal) HBX.out HNE.out)
         clear hr hbl hbz hal)
      | (go_at_call 117; (with_reducible refine HO.out.mono ?_); rintro e w1 ⟨A1, c1, rfl, hb1, hbel1⟩; have HB1 := Lib.hid (And.intro hb1 hbel1); clear hb1 hbel1))
    have hdl : decL G = if d = 0 then (allS (opB G)).2.1 else [] := by rw [HD.out]; rfl
    have HDL := Lib.hid hdl
    obtain ⟨Ar, cr, rfl, _⟩ := id HRW.out
    clear hdl
    by_cases hd0 : d = 0
    · subst hd0
      go_wp2
      go_ret2
      refine ⟨⟨Ar, _, cr, rfl, ?_⟩, HB4.out⟩
      rw [HDL.out, if_pos trivial]
      exact HRW.out.from HB3.out.size
    · go_wp2
      go_ret2
      refine ⟨⟨none, 0, 0, rfl, ?_⟩, HB4.out⟩
      rw [HDL.out, if_neg hd0]
      exact RowsF.nil _ _ _ _
  · have hde : d = E := by rw [HD.out, HE.out]; unfold decE; rw [if_pos (by rw [← HE.out]; exact he)]
    have HDL : Hid (decL G = []) := by
      show decL G = []
      unfold decL
      rw [if_neg (by rw [← HD.out, hde]; exact he)]
    have HDE := Lib.hid hde
    clear hde
    go_enter Tryz.func83, Tryz.ntmps83
    go_wp2_with (go_at_call 117; (with_reducible refine HO.out.mono ?_); rintro e w1 ⟨A1, c1, rfl, hb1, hbel1⟩; have HB1 := Lib.hid (And.intro hb1 hbel1); clear hb1 hbel1)
    go_ret2
    refine ⟨⟨none, 0, 0, by rw [HDE.out]; rfl, ?_⟩, HB1.out.2⟩
    rw [HDL.out]
    exact RowsF.nil _ _ _ _
end Go.Proofs.YtjijgoflbjbnfaaGreat.Sp
