/-
  The reference's Bytes, Text, Done. Conditions: at most two million bytes.
-/
import Derived.Test.YtklngdmpledgeaaPQct
import Derived.Test.YtklngdmpledgeaaPB9
import Derived.Test.YtklngdmpledgeaaPB2
namespace Go.Proofs.Ytklngdmpledgeaa.Sp
open Go.RowKit Fr
attribute [local go_sem] Oper.semAt_some

theorem Qd.drewN {w : World} {b m : Nat} {er : Int} {D : List Int} (h : Qd w b m er D) (nq : Nat) : Qd (w.drewN nq) b m er D := h.below (Oc.below_drewN (Below.refl _ _) nq)
set_option maxRecDepth 100000 in
set_option maxHeartbeats 4000000 in
theorem qbytes_bad {w : World} {b m : Nat} {er : Int} {D : List Int} (h : Qd w b m er D) (he : ¬ er = 0) (k was : Int) :
    Calls Try.prog 143 #[.pointer (some ⟨b, 0, none⟩), .int .i64 k, .int .i64 was] w fun e w' => ∃ A q c, e = .returned (.slice A q c) ∧ BAt w' (.slice A q c) [] ∧ QTo b w m er D w' := by
  obtain ⟨c1, c2, f1⟩ := qd_cells h
  have HD : Hid (∀ nq, QTo b w m er D (w.drewN nq)) := Lib.hid (fun nq => ⟨h.drewN nq, grownBy_of_below _ (Oc.below_drewN (Below.refl _ _) nq)⟩)
  clear h
  go_enter Try.func143, Try.ntmps143
  go_wp2_with fail
  go_quiet (fail)
  go_wp2
  go_ret
  exact ⟨none, 0, 0, rfl, BAt.nil _, HD.out _⟩
set_option maxRecDepth 100000 in
set_option maxHeartbeats 4000000 in
theorem qbytes_end {w : World} {b m k was : Nat} {D : List Int} (h : Qd w b m 0 D) (hk : D.length < m + k) (hk2 : k < 4611686018427387904) (hwas : was ≤ D.length) :
    Calls Try.prog 143 #[.pointer (some ⟨b, 0, none⟩), .int .i64 (k : Int), .int .i64 (was : Int)] w fun e w' => ∃ A q c, e = .returned (.slice A q c) ∧ BAt w' (.slice A q c) [] ∧ QTo b w was 12 D w' := by
  obtain ⟨hb, hmD, hl⟩ := qd_at h
  have HDN : Hid (∀ nq, QTo b w m 0 D (w.drewN nq)) := Lib.hid (fun nq => ⟨h.drewN nq, grownBy_of_below _ (Oc.below_drewN (Below.refl _ _) nq)⟩)
  obtain ⟨A, n, c, h1, h2, _⟩ := id h
  have hln := h2.len
  obtain ⟨⟨c0, c1, c2⟩, _⟩ := three h1
  obtain ⟨q, hq⟩ : ∃ q, q = n - m := ⟨_, rfl⟩
  have hw1 : IntKind.i64.wrap ((n : Int) - (m : Int)) = (q : Int) := by rw [IntKind.wrap_i64]; omega
  have t1 : (q : Int) < (k : Int) := by omega
  have HW := Lib.hid hwas
  clear h h1 h2 hln hb hq hk hk2 hwas
  go_enter Try.func143, Try.ntmps143
  go_wp2_with fail
  go_quiet (fail)
  go_wp2_with (first
    | (go_at_call 142; (with_reducible refine (qfail_yes (HDN.out _).st 12 was HW.out).mono ?_); rintro e w3 ⟨rfl, hq3⟩
       obtain ⟨d1, d2, _⟩ := qd_cells hq3.st
       have HQ3 := Lib.hid (QTo.trans (HDN.out _).gr hq3)
       clear hq3))
  go_ret
  exact ⟨none, 0, 0, rfl, BAt.nil _, HQ3.out⟩
set_option maxRecDepth 100000 in
set_option maxHeartbeats 4000000 in
theorem qbytes_ok {w : World} {b m k : Nat} {D : List Int} (h : Qd w b m 0 D) (hk : m + k ≤ D.length) (was : Int) :
    Calls Try.prog 143 #[.pointer (some ⟨b, 0, none⟩), .int .i64 (k : Int), .int .i64 was] w fun e w' => ∃ A q c, e = .returned (.slice A q c) ∧ BAt w' (.slice A q c) ((D.drop m).take k) ∧ QTo b w (m + k) 0 D w' := by
  obtain ⟨hb, hmD, hl⟩ := qd_at h
  have HDN : Hid (∀ nq, QTo b w m 0 D (w.drewN nq)) := Lib.hid (fun nq => ⟨h.drewN nq, grownBy_of_below _ (Oc.below_drewN (Below.refl _ _) nq)⟩)
  obtain ⟨A, n, c, h1, h2, h3, _⟩ := id h
  have hln := h2.len
  obtain ⟨⟨c0, c1, c2⟩, f0, f1, f2⟩ := three h1
  obtain ⟨q, hq⟩ : ∃ q, q = n - m := ⟨_, rfl⟩
  obtain ⟨m2, hm2⟩ : ∃ m2, m2 = m + k := ⟨_, rfl⟩
  have hw1 : IntKind.i64.wrap ((n : Int) - (m : Int)) = (q : Int) := by rw [IntKind.wrap_i64]; omega
  have hw2 : IntKind.i64.wrap ((m : Int) + (k : Int)) = (m2 : Int) := by rw [IntKind.wrap_i64]; omega
  have hw3 : IntKind.i64.wrap ((m2 : Int) - (k : Int)) = (m : Int) := by rw [IntKind.wrap_i64]; omega
  have t1 : decide ((q : Int) < (k : Int)) = false := decide_eq_false (by omega)
  have t2 : ¬ (q : Int) < (k : Int) := by omega
  obtain ⟨A', hA', hsl⟩ := slice_midG A n c m m2 (by omega) (by omega)
  have hbm := bat_midG h2 m m2 hA' (by omega) (by omega)
  have e1 : m2 - m = k := by omega
  rw [e1] at hsl hbm
  obtain ⟨c', hc'⟩ : ∃ c', c' = c - m := ⟨_, rfl⟩
  rw [← hc'] at hsl hbm
  have HBM := Lib.hid hbm
  have HBK : Hid (BK (fun k => k < b) (.slice A' k c') ((D.drop m).take k)) := Lib.hid (fun hp a n2 c2 ha => by
    have hk0 : 0 < k := by rw [List.length_take] at hp; omega
    obtain ⟨A2, cp, e2, _, h5⟩ := id h2
    obtain ⟨g, o, h6, _⟩ := h5 (by omega)
    cases e2
    have h7 := hA' (by omega) g o h6
    cases ha
    cases h7
    exact h3 (by omega) ⟨g, o, none⟩ _ _ (by rw [h6]))
  have HM : Hid (m2 = m + k ∧ m2 ≤ D.length) := ⟨hm2, by omega⟩
  rw [← hm2]
  clear h h1 h2 h3 hln hb hq hk hm2 hA' hbm hc' e1
  go_enter Try.func143, Try.ntmps143
  go_wp2_with fail
  go_quiet (fail)
  go_wp2_with fail
  go_quiet (fail)
  go_wp2
  go_ret
  have h8 := fun nq nr => ((HDN.out nq).st.set1 m2 HM.out.2).1.drewN nr
  have h9 := fun nq nr => grownBy_trans (grownBy_trans (HDN.out nq).gr ((HDN.out nq).st.set1 m2 HM.out.2).2) (grownBy_of_below (some b) (Oc.below_drewN (Below.refl _ _) nr))
  refine ⟨A', k, c', rfl, bat_kept HBM.out (fun hp a n c e => (h9 _ _).block _ (bat_lt HBM.out hp e) (fun e2 => by
    have h10 : a.block = b := Option.some.inj e2
    have := HBK.out hp a n c e
    omega)), h8 _ _, h9 _ _⟩
end Go.Proofs.Ytklngdmpledgeaa.Sp

namespace Go.Proofs.Ytklngdmpledgeaa.Sp
open Go.RowKit Fr
attribute [local go_sem] Oper.semAt_some

set_option maxRecDepth 100000 in
set_option maxHeartbeats 4000000 in
theorem qtext_of {w : World} {b m m1 m2 cN : Nat} {er1 er2 : Int} {D bs : List Int} (h : Qd w b m 0 D) (hbs : bok bs)
    (hc : Calls Try.prog 102 #[.pointer (some ⟨b, 0, none⟩), .int .i64 1048576] w fun e w' => e = .returned (.int .i64 (cN : Int)) ∧ QTo b w m1 er1 D w')
    (hy : ∀ W, Qd W b m1 er1 D → Calls Try.prog 143 #[.pointer (some ⟨b, 0, none⟩), .int .i64 (cN : Int), .int .i64 (m : Int)] W fun e w' => ∃ A q c, e = .returned (.slice A q c) ∧ BAt w' (.slice A q c) bs ∧ QTo b W m2 er2 D w') :
    Calls Try.prog 103 #[.pointer (some ⟨b, 0, none⟩), .int .i64 1048576] w fun e w' => e = .returned (.string (Oc.strOf bs)) ∧ QTo b w m2 er2 D w' := by
  obtain ⟨c1, c2, f1⟩ := qd_cells h
  have HC := Lib.hid hc
  have HY := Lib.hid hy
  have HBS := Lib.hid hbs
  clear h hc hy hbs f1 c2
  go_enter Try.func103, Try.ntmps103
  go_wp2_with (first
    | (go_at_call 143; (with_reducible refine (HY.out w2 HQ2.out.st).mono ?_); rintro e w3 ⟨A3, q3, c3, rfl, hba3, hq3⟩
       have hcv := Oc.conv_any (Jo.oc_at hba3) HBS.out
       have HQ3 := Lib.hid (QTo.trans HQ2.out.gr hq3)
       clear hba3 hq3)
    | (go_at_call 102; (with_reducible refine HC.out.mono ?_); rintro e w2 ⟨rfl, hq2⟩; have HQ2 := Lib.hid hq2; clear hq2))
  go_ret
  exact ⟨rfl, HQ3.out⟩
theorem qtext_any {w : World} {b m : Nat} {D : List Int} (h : Qd w b m 0 D) :
    Calls Try.prog 103 #[.pointer (some ⟨b, 0, none⟩), .int .i64 1048576] w fun e w' => e = .returned (.string (Oc.strOf (txt (D.drop m)).2.1)) ∧ ∃ m', QTo b w m' (txt (D.drop m)).1 D w' ∧ D.drop m' = (txt (D.drop m)).2.2 := by
  obtain ⟨hb, hmD, hlD⟩ := qd_at h
  have hc := qcount_any h 1048576 (by decide)
  have hdr := qcnt_drop (most := 1048576) hb hmD
  by_cases h0 : (Oc.rg (D.drop m)).1 = 0
  · by_cases h1 : ((Oc.rg (D.drop m)).2.1 : Int) ≤ 1048576
    · have e : qcnt 1048576 (D.drop m) = (0, (Oc.rg (D.drop m)).2.1, (Oc.rg (D.drop m)).2.2) := by unfold qcnt; rw [if_neg (fun h => h h0), if_neg (fun h => h h1)]
      rw [e, if_pos rfl] at hc hdr
      dsimp only at hc hdr
      have hl2 : (Oc.rg (D.drop m)).2.2.length ≤ D.length := by rw [← hdr.2, List.length_drop]; omega
      by_cases hs : (Oc.rg (D.drop m)).2.2.length < (Oc.rg (D.drop m)).2.1
      · have e2 : txt (D.drop m) = (12, [], D.drop m) := by unfold txt; rw [if_neg (fun h => h h0), if_neg (fun h => h h1), if_pos hs]
        rw [e2]
        refine (qtext_of h (bs := []) (fun x hx => by cases hx) hc (fun W hW => qbytes_end hW (by omega) (by omega) hmD)).mono ?_
        rintro e w' ⟨rfl, hq⟩
        exact ⟨rfl, m, hq, rfl⟩
      · have e2 : txt (D.drop m) = (0, (Oc.rg (D.drop m)).2.2.take (Oc.rg (D.drop m)).2.1, (Oc.rg (D.drop m)).2.2.drop (Oc.rg (D.drop m)).2.1) := by unfold txt; rw [if_neg (fun h => h h0), if_neg (fun h => h h1), if_neg hs]
        rw [e2]
        refine (qtext_of h (bs := (D.drop (D.length - (Oc.rg (D.drop m)).2.2.length)).take (Oc.rg (D.drop m)).2.1) (fun x hx => hb x (List.mem_of_mem_drop (List.mem_of_mem_take hx))) hc (fun W hW => qbytes_ok hW (by omega) _)).mono ?_
        rintro e w' ⟨rfl, hq⟩
        rw [hdr.2]
        refine ⟨rfl, _, hq, ?_⟩
        rw [← List.drop_drop, hdr.2]
    · have e : qcnt 1048576 (D.drop m) = (Oc.longE (Oc.rg (D.drop m)).2.1, 0, D.drop m) := by unfold qcnt; rw [if_neg (fun h => h h0), if_pos h1]
      have e2 : txt (D.drop m) = (Oc.longE (Oc.rg (D.drop m)).2.1, [], D.drop m) := by unfold txt; rw [if_neg (fun h => h h0), if_pos h1]
      rw [e, if_neg (Oc.longE_ne _)] at hc
      rw [e2]
      refine (qtext_of h (bs := []) (fun x hx => by cases hx) hc (fun W hW => qbytes_bad hW (Oc.longE_ne _) _ _)).mono ?_
      rintro e w' ⟨rfl, hq⟩
      exact ⟨rfl, m, hq, rfl⟩
  · have e : qcnt 1048576 (D.drop m) = ((Oc.rg (D.drop m)).1, 0, D.drop m) := by unfold qcnt; rw [if_pos h0]
    have e2 : txt (D.drop m) = ((Oc.rg (D.drop m)).1, [], D.drop m) := by unfold txt; rw [if_pos h0]
    rw [e, if_neg h0] at hc
    rw [e2]
    refine (qtext_of h (bs := []) (fun x hx => by cases hx) hc (fun W hW => qbytes_bad hW h0 _ _)).mono ?_
    rintro e w' ⟨rfl, hq⟩
    exact ⟨rfl, m, hq, rfl⟩
set_option maxRecDepth 100000 in
set_option maxHeartbeats 4000000 in
theorem qdone_any {w : World} {b m : Nat} {er : Int} {D : List Int} (h : Qd w b m er D) :
    Calls Try.prog 104 #[.pointer (some ⟨b, 0, none⟩)] w fun e w' => e = .returned (.int .i64 (Oc.doneE er (D.drop m))) ∧ Below w.heap.size w w' := by
  obtain ⟨hb, hmD, hl⟩ := qd_at h
  obtain ⟨A, n, c, h1, h2, _⟩ := id h
  have hln := h2.len
  obtain ⟨⟨c0, c1, c2⟩, _⟩ := three h1
  have HBEL : Hid (∀ nq, Below w.heap.size w (w.drewN nq)) := Lib.hid (fun nq => Oc.below_drewN (Below.refl _ _) nq)
  obtain ⟨x, hx⟩ : ∃ x, x = Oc.doneE er (D.drop m) := ⟨_, rfl⟩
  rw [← hx]
  by_cases he : er = 0
  · subst he
    by_cases hlt : m < n
    · have t1 : (m : Int) < (n : Int) := by omega
      have hx3 : x = 3 := by
        rw [hx]; unfold Oc.doneE
        rw [if_pos rfl, if_neg]
        intro e
        have := congrArg List.length e
        rw [List.length_drop] at this
        simp at this; omega
      subst hx3
      clear h h1 h2 hln hb hmD hl hx hlt
      go_enter Try.func104, Try.ntmps104
      go_wp2_with fail
      go_quiet (fail)
      go_wp2
      go_ret
      exact ⟨rfl, HBEL.out _⟩
    · have hmn : m = n := by omega
      have hx3 : x = 0 := by
        rw [hx]; unfold Oc.doneE
        rw [if_pos rfl, if_pos]
        exact List.drop_eq_nil_of_le (by omega)
      subst hx3 hmn
      have t1 : ¬ (m : Int) < (m : Int) := by omega
      clear h h1 h2 hln hb hmD hl hx hlt
      go_enter Try.func104, Try.ntmps104
      go_wp2_with fail
      go_quiet (fail)
      go_wp2
      go_ret
      exact ⟨rfl, HBEL.out _⟩
  · rw [Oc.doneE_yes he] at hx
    subst hx
    clear h h1 h2 hln hb hmD hl
    go_enter Try.func104, Try.ntmps104
    go_wp2_with fail
    go_quiet (fail)
    go_wp2
    go_ret
    exact ⟨rfl, HBEL.out _⟩
end Go.Proofs.Ytklngdmpledgeaa.Sp

namespace Go.Proofs.Ytklngdmpledgeaa.Fr
open Go.RowKit

theorem bits_xor64 (a b : Nat) (ha : a < 4294967296) (hb : b < 4294967296) : bits .xor .i64 (a : Int) (b : Int) = ((a ^^^ b : Nat) : Int) := by
  show IntKind.i64.wrap ((BitVec.ofInt 64 (a : Int) ^^^ BitVec.ofInt 64 (b : Int)).toNat : Int) = _
  have := lt_xor ha hb
  have e1 : (BitVec.ofInt 64 (a : Int)).toNat = a := by rw [BitVec.toNat_ofInt]; omega
  have e2 : (BitVec.ofInt 64 (b : Int)).toNat = b := by rw [BitVec.toNat_ofInt]; omega
  rw [BitVec.toNat_xor, e1, e2, IntKind.wrap_i64]
  omega
/-- A step of the register, bit by bit. -/
theorem stp_eq {c d : Nat} (h : c % 2 = d % 2) : stp (c ^^^ d) = (c / 2) ^^^ (d / 2) := by
  have h1 : (c ^^^ d) % 2 = 0 := by
    rcases Nat.mod_two_eq_zero_or_one (c ^^^ d) with h2 | h2
    · exact h2
    · rw [Nat.xor_mod_two_eq_one] at h2
      omega
  unfold stp
  rw [h1, Nat.xor_div_two]
  simp
theorem stp_ne {c d : Nat} (h : ¬ c % 2 = d % 2) : stp (c ^^^ d) = ((c / 2) ^^^ 3988292384) ^^^ (d / 2) := by
  have h1 : (c ^^^ d) % 2 = 1 := by
    rw [Nat.xor_mod_two_eq_one]
    omega
  unfold stp
  rw [h1, Nat.xor_div_two, Nat.mul_one, Nat.xor_assoc, Nat.xor_assoc, Nat.xor_comm (d / 2)]
/-- The register and the byte's bits that are left, behind k steps. -/
def BitI (r b k c d : Nat) : Prop := c < 4294967296 ∧ d < 2 ^ (8 - k) ∧ stps (8 - k) (c ^^^ d) = mvF r b
theorem BitI.eq {r b k c d : Nat} (h : BitI r b k c d) (hk : k < 8) (hp : c % 2 = d % 2) : BitI r b (k + 1) (c / 2) (d / 2) := by
  obtain ⟨h1, h2, h3⟩ := h
  have e : 8 - k = 8 - (k + 1) + 1 := by omega
  rw [e] at h2 h3
  rw [Nat.pow_succ] at h2
  refine ⟨by omega, by omega, ?_⟩
  have : stps (8 - (k + 1)) (stp (c ^^^ d)) = mvF r b := h3
  rw [stp_eq hp] at this
  exact this
theorem BitI.ne {r b k c d : Nat} (h : BitI r b k c d) (hk : k < 8) (hp : ¬ c % 2 = d % 2) : BitI r b (k + 1) (c / 2 ^^^ 3988292384) (d / 2) := by
  obtain ⟨h1, h2, h3⟩ := h
  have e : 8 - k = 8 - (k + 1) + 1 := by omega
  rw [e] at h2 h3
  rw [Nat.pow_succ] at h2
  refine ⟨lt_xor (by omega) (by decide), by omega, ?_⟩
  have : stps (8 - (k + 1)) (stp (c ^^^ d)) = mvF r b := h3
  rw [stp_ne hp] at this
  exact this
theorem BitI.done {r b c d : Nat} (h : BitI r b 8 c d) : c = mvF r b := by
  obtain ⟨_, h2, h3⟩ := h
  have h4 : d = 0 := by
    have : (2 : Nat) ^ (8 - 8) = 1 := by decide
    omega
  rw [h4, Nat.xor_zero] at h3
  exact h3

set_option maxRecDepth 100000 in
set_option maxHeartbeats 4000000 in
theorem rsum_any (w : World) (v : Value) (l : List Int) (h : BAt w v l) (hb : bok l) (hl : l.length ≤ 2000000) :
    Calls Try.prog 140 #[v] w fun e w' => e = .returned (.int .i64 (crc l : Int)) ∧ w = w' := by
  obtain ⟨A, cap, rfl, _, hc⟩ := h
  obtain ⟨n, hn⟩ : ∃ n, n = l.length := ⟨_, rfl⟩
  rw [← hn] at hc hl ⊢
  have HC := Lib.hid hc
  have HB := Lib.hid hb
  have HN := Lib.hid hn
  clear hc hb hn
  go_enter Try.func140, Try.ntmps140
  go_wp2
  go_loopg [3, 4] n (fun (gh : Nat) s3 s4 wx => ∃ i r : Nat, gh = n - i ∧ i ≤ n ∧ s3 = .int .i64 (r : Int) ∧ s4 = .int .i64 (i : Int) ∧ Hid (r = crcF 4294967295 (l.take i)) ∧ wx = w)
  case atStart => exact ⟨0, 4294967295, rfl, Nat.zero_le _, rfl, rfl, rfl, rfl⟩
  case round =>
    obtain ⟨i, r, rfl, hi, rfl, rfl, hr, rfl⟩ := hrel
    by_cases hlt : i < n
    · have t1 : (i : Int) < (n : Int) := by omega
      obtain ⟨g, o, rfl, _, hcc⟩ := HC.out (by omega)
      obtain ⟨b, hb⟩ : ∃ b, b = (l.getD i 0).toNat := ⟨_, rfl⟩
      have hbr := bok_at HB.out (i := i) (by rw [← HN.out]; exact hlt)
      have hcb := hcc i hlt
      rw [show l.getD i 0 = (b : Int) by omega] at hcb
      have hb2 : b < 256 := by omega
      have hrl : r < 4294967296 := by rw [hr.out]; exact crcF_lt (bok_take HB.out i) (by decide)
      have HR : Hid (mvF r b = crcF 4294967295 (l.take (i + 1))) := by
        show _ = _
        rw [crcF_snoc (by rw [← HN.out]; exact hlt), ← hr.out, hb]
      have H0 : Hid (BitI r b 0 r b) := ⟨hrl, hb2, rfl⟩
      clear hcc hb hbr hr
      go_wp2
      go_loopg [3, 5, 6] 8 (fun (gh : Nat) s3 s5 s6 wx => ∃ k c d : Nat, gh = 8 - k ∧ k ≤ 8 ∧ s3 = .int .i64 (c : Int) ∧ s5 = .int .i64 (d : Int) ∧ s6 = .int .i64 (k : Int) ∧ Hid (BitI r b k c d) ∧ wx = wr)
      case atStart => exact ⟨0, r, b, rfl, Nat.zero_le _, rfl, rfl, rfl, H0.out, rfl⟩
      case round =>
        clear H0
        obtain ⟨k, c, d, rfl, hk, rfl, rfl, rfl, hI, rfl⟩ := hrel
        by_cases hlt2 : k < 8
        · have t2 : (k : Int) < 8 := by omega
          have hc2 := hI.out.1
          have hd2 : d < 256 := by
            have h1 := hI.out.2.1
            have h2 : 2 ^ (8 - k) ≤ 2 ^ 8 := Nat.pow_le_pow_right (by decide) (by omega)
            have h3 : (2 : Nat) ^ 8 = 256 := by decide
            omega
          obtain ⟨y, hy⟩ : ∃ y, y = c / 2 := ⟨_, rfl⟩
          obtain ⟨z, hz⟩ : ∃ z, z = d / 2 := ⟨_, rfl⟩
          obtain ⟨u, hu⟩ : ∃ u : Nat, u = c % 2 := ⟨_, rfl⟩
          obtain ⟨v, hv⟩ : ∃ v : Nat, v = d % 2 := ⟨_, rfl⟩
          have e1 : (c : Int) / 2 = (y : Int) := by omega
          have e2 : (d : Int) / 2 = (z : Int) := by omega
          have e3 : (c : Int) % 2 = (u : Int) := by omega
          have e4 : (d : Int) % 2 = (v : Int) := by omega
          have e1' : (c : Int).tdiv 2 = (y : Int) := by rw [Int.tdiv_eq_ediv_of_nonneg (by omega)]; exact e1
          have e2' : (d : Int).tdiv 2 = (z : Int) := by rw [Int.tdiv_eq_ediv_of_nonneg (by omega)]; exact e2
          have e3' : (c : Int).tmod 2 = (u : Int) := by rw [Int.tmod_eq_emod_of_nonneg (by omega)]; exact e3
          have e4' : (d : Int).tmod 2 = (v : Int) := by rw [Int.tmod_eq_emod_of_nonneg (by omega)]; exact e4
          have hyb : y < 4294967296 := by omega
          by_cases huv : u = v
          · have HI : Hid (BitI r b (k + 1) y z) := by rw [hy, hz]; exact hI.out.eq hlt2 (by omega)
            subst huv
            clear hy hz hu hv hI
            go_wp2
            go_roundg (8 - (k + 1))
            case measure => omega
            case rel => exact ⟨k + 1, y, z, rfl, hlt2, rfl, rfl, by go_num, HI.out, rfl⟩
          · obtain ⟨x, hx⟩ : ∃ x, x = y ^^^ 3988292384 := ⟨_, rfl⟩
            have HI : Hid (BitI r b (k + 1) x z) := by rw [hx, hy, hz]; exact hI.out.ne hlt2 (by omega)
            have e5 : bits .xor .i64 (y : Int) 3988292384 = (x : Int) := by
              have := bits_xor64 y 3988292384 hyb (by decide)
              rw [hx]
              exact this
            have t3 : ¬ (u : Int) = (v : Int) := by omega
            clear hy hz hu hv hI hx
            go_wp2
            go_roundg (8 - (k + 1))
            case measure => omega
            case rel => exact ⟨k + 1, x, z, rfl, hlt2, rfl, rfl, by go_num, HI.out, rfl⟩
        · obtain rfl : k = 8 := by omega
          have HE : Hid (c = crcF 4294967295 (l.take (i + 1))) := by show _ = _; rw [hI.out.done, HR.out]
          clear hI
          go_wp2
          go_roundg (n - (i + 1))
          case measure => omega
          case rel => exact ⟨i + 1, c, rfl, hlt, rfl, by go_num, HE.out, rfl⟩
    · obtain rfl : i = n := by omega
      have hrl : r < 4294967296 := by rw [hr.out]; exact crcF_lt (bok_take HB.out i) (by decide)
      have HE : Hid ((4294967295 : Int) - (r : Int) = (crc l : Int)) := by
        show _ = _
        have h1 : r = crcF 4294967295 l := by rw [hr.out, HN.out, List.take_of_length_le (Nat.le_refl _)]
        unfold crc
        rw [← h1]
        omega
      clear hr
      go_wp2
      go_ret
      exact ⟨by rw [← HE.out]; rfl, rfl⟩
end Go.Proofs.Ytklngdmpledgeaa.Fr
