/-
  The contract of Check. Conditions: the table of kinds lies as the program's text lays it; names of at most 100000 bytes, at most a thousand rows.
-/
import Derived.Test.YteahloddjekakaaDoorNChkA
import Derived.Test.YteahloddjekakaaDoorNChkB
import Derived.Test.YteahloddjekakaaDoorNChkC
import Derived.Test.YteahloddjekakaaDoorNChkD
import Derived.Test.YteahloddjekakaaDoorNMth
import Derived.Test.YteahloddjekakaaDoorNREnc
import Derived.Test.YteahloddjekakaaDoorNTo0
namespace Go.Proofs.YteahloddjekakaaDoor.Nt
open Go.RowKit Td

set_option maxRecDepth 100000 in
set_option maxHeartbeats 1000000 in
theorem check_no (w : World) (x : Nt) (A : Option Addr) (n c : Nat) (hb : isK x.k = false) :
    Calls Tryd.prog 10 #[.agg #[.int .i64 x.k, .int .i64 x.p, .int .i64 x.d, .int .i64 x.t.n, .string x.t.b, .string x.t.s, .string x.t.i, .int .i64 x.t.q, .int .i64 x.t.p, .string x.n, .int .i64 x.a, .slice A n c, .int .i64 x.hi, .int .u64 x.lo]] w fun e w' => e = .returned (.int .i64 1) ∧ Below w.heap.size w w' := by
  have E1 := block_new w (.cells #[.int .i64 x.k, .int .i64 x.p, .int .i64 x.d, .int .i64 x.t.n, .string x.t.b, .string x.t.s, .string x.t.i, .int .i64 x.t.q, .int .i64 x.t.p, .string x.n, .int .i64 x.a, .slice A n c, .int .i64 x.hi, .int .u64 x.lo] 33)
  have HB0 : Hid (Below w.heap.size w (w.alloc (.cells #[.int .i64 x.k, .int .i64 x.p, .int .i64 x.d, .int .i64 x.t.n, .string x.t.b, .string x.t.s, .string x.t.i, .int .i64 x.t.q, .int .i64 x.t.p, .string x.n, .int .i64 x.a, .slice A n c, .int .i64 x.hi, .int .u64 x.lo] 33))) := (Below.refl _ _).alloc (Nat.le_refl _) _
  have x0 := (blk14 E1).1.1
  have HI := Lib.hid fun W => isKind_any W x.k (Lib.hid hb.symm)
  clear E1 hb
  go_enter Tryd.func10, Tryd.ntmps10
  go_upto_region 1 with fail
  generalize w.alloc _ = W0 at x0 HB0 ⊢
  go_wp2_with (go_at_call 25; (with_reducible refine (HI.out _).mono ?_); rintro e w1 ⟨rfl, rfl⟩)
  go_ret
  exact ⟨rfl, HB0.out⟩
theorem check_any (w : World) (hk : KinC w) (x : Nt) (A : Option Addr) (n c : Nat) (l : List Rw) (hl : Hid (RR w A l)) (hn : Hid (n = l.length)) (hs : Hid (SmN x l)) {r : Int} (hr : Hid (r = chkN x l)) :
    Calls Tryd.prog 10 #[.agg #[.int .i64 x.k, .int .i64 x.p, .int .i64 x.d, .int .i64 x.t.n, .string x.t.b, .string x.t.s, .string x.t.i, .int .i64 x.t.q, .int .i64 x.t.p, .string x.n, .int .i64 x.a, .slice A n c, .int .i64 x.hi, .int .u64 x.lo]] w fun e w' => e = .returned (.int .i64 r) ∧ Below w.heap.size w w' := by
  cases hb : isK x.k
  · obtain rfl : r = 1 := by rw [hr.out]; unfold chkN; rw [hb]; rfl
    exact check_no w x A n c hb
  · obtain ⟨m, hm, h1, h2⟩ := isK_yes hb
    have hr2 : r = if fitB m x n = true then orL (errL m x l) else 1 := by rw [hr.out]; unfold chkN; rw [if_pos hb, hm, Int.toNat_natCast, ← hn.out]
    cases H4 : ka m
    · cases H0 : kp m
      · exact check_b w hk x A n c l hl hn hs m hm h1 h2 hr2 H4 H0
      · cases HP : decide (0 ≤ x.p)
        · exact check_c w hk x A n c l hl hn hs m hm h1 h2 hr2 H4 H0 HP
        · exact check_d w hk x A n c l hl hn hs m hm h1 h2 hr2 H4 H0 HP
    · exact check_a w hk x A n c l hl hn hs m hm h1 h2 hr2 H4
end Go.Proofs.YteahloddjekakaaDoor.Nt

namespace Go.Proofs.YteahloddjekakaaDoor.Nt
open Go.RowKit Td

theorem tx_le {s : ByteArray} (h : s.size ≤ 12) : (tx s).length ≤ 22 := by
  rw [tx_len]
  have := (Oc.grp_len s.size).1
  omega
theorem pt_le {q : Bool} {l : List Int} {n : Nat} (h : q = true → l.length ≤ n) : (pt q l).length ≤ n := by
  cases q
  · exact Nat.zero_le _
  · exact h rfl
theorem rwB_le : ∀ {l : List Rw}, (∀ m ∈ l, m.1.size ≤ 12) → (rwB l).length ≤ 32 * l.length
  | [], _ => Nat.le_refl _
  | m :: l, h => by
    have h1 := tx_le (h m (by simp))
    have h2 := (nb_len m.2).1
    have h3 := rwB_le (l := l) (fun y hy => h y (by simp [hy]))
    have e : rwB (m :: l) = tx m.1 ++ (nb m.2 ++ rwB l) := by unfold rwB; simp only [List.flatMap_cons, List.append_assoc]
    rw [e, List.length_append, List.length_append, List.length_cons]
    omega
theorem enc_le {m : Nat} {x : Nt} {lr : List Rw} (H : Rit m x lr) : (encB m x x.d.toNat x.lo.toNat lr).length ≤ 3000 := by
  have a1 : (pt (kp m) [x.p]).length ≤ 1 := pt_le (fun _ => Nat.le_refl _)
  have a2 : (pt (kd m) (Oc.grp x.d.toNat)).length ≤ 10 := pt_le (fun _ => (Oc.grp_len _).1)
  have a3 : (pt (kt m) (trB x.t)).length ≤ 100 := pt_le (fun hq => by
    obtain ⟨h1, h2, h3⟩ := chk_size (H.t hq)
    rw [trB_len]
    have b1 := (nb_len x.t.n).1
    have b2 := (nb_len x.t.q).1
    have b3 := (nb_len x.t.p).1
    have e : (txs [x.t.b, x.t.s, x.t.i]).length = (tx x.t.b).length + ((tx x.t.s).length + (tx x.t.i).length) := by
      unfold txs; simp only [List.flatMap_cons, List.flatMap_nil, List.length_append, List.append_nil]
    have c1 := tx_le h1
    have c2 := tx_le h2
    have c3 := tx_le h3
    omega)
  have a4 : (pt (kn m) (tx x.n)).length ≤ 22 := pt_le (fun _ => tx_le H.n)
  have a5 : (pt (ka m) (nb x.a)).length ≤ 10 := pt_le (fun _ => (nb_len _).1)
  have a6 : (pt (kr m) (rowsB lr)).length ≤ 1040 := pt_le (fun _ => by
    unfold rowsB
    rw [List.length_append]
    have h1 := (Oc.grp_len lr.length).1
    have h2 := rwB_le H.rn
    have := H.r
    omega)
  have a7 : (pt (kc m) (wdB x.hi x.lo.toNat)).length ≤ 18 := pt_le (fun _ => by
    unfold wdB
    rw [List.length_append, Oc.wordF_len]
    have := (nb_len x.hi).1
    omega)
  rw [enc_assoc]
  simp only [List.length_cons, List.length_append, List.length_nil]
  omega
set_option maxRecDepth 100000 in
set_option maxHeartbeats 4000000 in
theorem enc_no (w : World) (hk : KinC w) (x : Nt) (A : Option Addr) (n c : Nat) (l : List Rw) (hl : RR w A l) (hn : n = l.length) (hs : SmN x l) (hc : ¬ chkN x l = 0) :
    Calls Tryd.prog 17 #[.agg #[.int .i64 x.k, .int .i64 x.p, .int .i64 x.d, .int .i64 x.t.n, .string x.t.b, .string x.t.s, .string x.t.i, .int .i64 x.t.q, .int .i64 x.t.p, .string x.n, .int .i64 x.a, .slice A n c, .int .i64 x.hi, .int .u64 x.lo]] w fun e w' => e = .returned (.tuple #[.slice none 0 0, .int .i64 (chkN x l)]) ∧ Below w.heap.size w w' := by
  have E1 := block_new w (.cells #[.int .i64 x.k, .int .i64 x.p, .int .i64 x.d, .int .i64 x.t.n, .string x.t.b, .string x.t.s, .string x.t.i, .int .i64 x.t.q, .int .i64 x.t.p, .string x.n, .int .i64 x.a, .slice A n c, .int .i64 x.hi, .int .u64 x.lo] 33)
  have HB0 : Hid (Below w.heap.size w (w.alloc (.cells #[.int .i64 x.k, .int .i64 x.p, .int .i64 x.d, .int .i64 x.t.n, .string x.t.b, .string x.t.s, .string x.t.i, .int .i64 x.t.q, .int .i64 x.t.p, .string x.n, .int .i64 x.a, .slice A n c, .int .i64 x.hi, .int .u64 x.lo] 33))) := Lib.hid ((Below.refl _ _).alloc (Nat.le_refl _) _)
  have HC := Lib.hid (check_any _ (hk.kept HB0.out) x A n c l (Lib.hid (hl.below HB0.out)) (Lib.hid hn) (Lib.hid hs) (Lib.hid rfl))
  obtain ⟨r, hr⟩ : ∃ r, r = chkN x l := ⟨_, rfl⟩
  rw [← hr] at hc HC ⊢
  clear hr hk hl hs hn
  obtain ⟨⟨x0, x1, x2, x3, x4, x5, x6⟩, x7, x8, x9, x10, x11, x12, x13⟩ := blk14 E1
  clear E1
  go_enter Tryd.func17, Tryd.ntmps17
  go_wp2_with (go_at_call 10; (with_reducible refine HC.out.mono ?_); rintro e w1 ⟨rfl, hb⟩; have HB := Lib.hid (HB0.out.trans (hb.mono HB0.out.size)); clear hb)
  go_ret2
  exact ⟨rfl, HB.out⟩
theorem enc_yes (w : World) (hk : KinC w) {m : Nat} (x : Nt) (A : Option Addr) (n c : Nat) (l : List Rw) (H : Rit m x l) (N : Num x l) (hl : RR w A l) (hn : n = l.length) (hs : SmN x l) (hc : chkN x l = 0) :
    Calls Tryd.prog 17 #[.agg #[.int .i64 x.k, .int .i64 x.p, .int .i64 x.d, .int .i64 x.t.n, .string x.t.b, .string x.t.s, .string x.t.i, .int .i64 x.t.q, .int .i64 x.t.p, .string x.n, .int .i64 x.a, .slice A n c, .int .i64 x.hi, .int .u64 x.lo]] w fun e w' => ∃ A' cap, e = .returned (.tuple #[.slice A' (encB m x x.d.toNat x.lo.toNat l).length cap, .int .i64 0]) ∧ Oc.BAt w' (.slice A' (encB m x x.d.toNat x.lo.toNat l).length cap) (encB m x x.d.toNat x.lo.toNat l) ∧ Below w.heap.size w w' := by
  have hp := H.p
  have hd := H.d
  have hlo := N.lo
  have hr := H.r
  exact enc_q w hk x A n c l m x.d.toNat x.lo.toNat H.k H.m1 H.m12 (kp m) (kd m) (kt m) (kn m) (ka m) (kr m) (kc m) rfl rfl rfl rfl rfl rfl rfl
    (Lib.hid fun W hW => check_any W (hk.kept hW) x A n c l (Lib.hid (hl.below hW)) (Lib.hid hn) (Lib.hid hs) (Lib.hid hc.symm))
    hp.1 (by omega) (by omega) (by omega) N.t.1 N.t.2.1 N.t.2.2 N.a N.hi (by omega) (by omega) hl hn.symm (by omega) N.r (Nat.le_trans (enc_le H) (by decide))
theorem renc_yes (w : World) {m : Nat} (x : Nt) (A : Option Addr) (n c : Nat) (l : List Rw) (H : Rit m x l) (N : Num x l) (hl : RR w A l) (hn : n = l.length) (hs : SmN x l) :
    Calls Tryd.prog 20 #[.agg #[.int .i64 x.k, .int .i64 x.p, .int .i64 x.d, .int .i64 x.t.n, .string x.t.b, .string x.t.s, .string x.t.i, .int .i64 x.t.q, .int .i64 x.t.p, .string x.n, .int .i64 x.a, .slice A n c, .int .i64 x.hi, .int .u64 x.lo]] w fun e w' => ∃ v, e = .returned v ∧ Oc.BAt w' v (encB m x x.d.toNat x.lo.toNat l) ∧ Below w.heap.size w w' := by
  obtain ⟨g0, g1, g2, g3, g4, g5, g6⟩ := ask_all m H.m1 H.m12
  have hp := H.p
  have hd := H.d
  have hlo := N.lo
  have hr := H.r
  refine (renc_q w x A n c l m x.d.toNat x.lo.toNat H.k H.m12 (kp m) (kd m) (kt m) (kn m) (ka m) (kr m) (kc m) g0.symm g1.symm g2.symm g3.symm g4.symm g5.symm g6.symm
    hp.1 (by omega) (by omega) (by omega) N.t.1 N.t.2.1 N.t.2.2 N.a N.hi (by omega) (by omega) hl hn.symm (by omega) (fun r hr => ⟨N.r r hr, Nat.le_trans (H.rn r hr) (by decide)⟩) hs.1.1 hs.1.2.1 hs.1.2.2 hs.2.1 (Nat.le_trans (enc_le H) (by decide))).mono ?_
  rintro e w' ⟨v, h1, h2⟩
  exact ⟨v, h1, Oc.BAt.of_own h2.own, h2.bel⟩
theorem bok2 {a b : List Int} (h : Oc.bok a) (k : Oc.bok b) : Oc.bok (a ++ b) := fun x hx => (List.mem_append.1 hx).elim (h x) (k x)
theorem pt_bok {q : Bool} {l : List Int} (h : Oc.bok l) : Oc.bok (pt q l) := by
  cases q
  · exact fun x hx => absurd hx List.not_mem_nil
  · exact h
theorem nb_bok {x : Int} (h : I64 x) : Oc.bok (nb x) := Oc.grp_bok (Oc.fold_lt h.1 h.2)
theorem tx_bok {s : ByteArray} (h : s.size ≤ 12) : Oc.bok (tx s) := bok2 (Oc.grp_bok (by omega)) (Oc.sb_bok s)
theorem rwB_bok : ∀ l : List Rw, (∀ m ∈ l, I64 m.2 ∧ m.1.size ≤ 12) → Oc.bok (rwB l)
  | [], _ => fun x hx => absurd hx List.not_mem_nil
  | m :: l, h => by
    have e : rwB (m :: l) = tx m.1 ++ (nb m.2 ++ rwB l) := by unfold rwB; simp only [List.flatMap_cons, List.append_assoc]
    have h0 := h m (by simp)
    rw [e]
    exact bok2 (tx_bok h0.2) (bok2 (nb_bok h0.1) (rwB_bok l (fun y hy => h y (by simp [hy]))))
theorem pt_bok2 {q : Bool} {l : List Int} (h : q = true → Oc.bok l) : Oc.bok (pt q l) := by
  cases q
  · exact fun x hx => absurd hx List.not_mem_nil
  · exact h rfl
theorem enc_bok {m : Nat} {x : Nt} {lr : List Rw} (H : Rit m x lr) (N : Num x lr) : Oc.bok (encB m x x.d.toNat x.lo.toNat lr) := by
  rw [enc_assoc]
  have hm : Oc.bok [(m : Int)] := fun y hy => by
    have := List.mem_singleton.1 hy
    have h1 := H.m12
    rw [this]; omega
  have hp : Oc.bok [x.p] := fun y hy => by
    have := List.mem_singleton.1 hy
    have h1 := H.p
    rw [this]; omega
  have hd := H.d
  have hr := H.r
  refine bok2 hm (bok2 (pt_bok hp) (bok2 (pt_bok (Oc.grp_bok (by omega))) (bok2 (pt_bok2 fun hq => ?_) (bok2 (pt_bok (tx_bok H.n)) (bok2 (pt_bok (nb_bok N.a)) (bok2 (pt_bok (bok2 (Oc.grp_bok (by omega)) (rwB_bok _ (fun y hy => ⟨N.r y hy, H.rn y hy⟩)))) (bok2 (pt_bok ?_) (fun x hx => absurd hx List.not_mem_nil))))))))
  · have e : trB x.t = nb x.t.n ++ (tx x.t.b ++ (tx x.t.s ++ (tx x.t.i ++ (nb x.t.q ++ nb x.t.p)))) := by
      unfold trB txs
      simp only [List.flatMap_cons, List.flatMap_nil, List.append_assoc, List.nil_append]
    obtain ⟨h1, h2, h3⟩ := chk_size (H.t hq)
    rw [e]
    exact bok2 (nb_bok N.t.1) (bok2 (tx_bok h1) (bok2 (tx_bok h2) (bok2 (tx_bok h3) (bok2 (nb_bok N.t.2.1) (nb_bok N.t.2.2)))))
  · exact bok2 (nb_bok N.hi) (Oc.word_bok _ _)
theorem num_cut {a : Nt} {la : List Rw} (h : Num a la) : Num (cutN a) (cutR la) :=
  ⟨h.t, h.a, h.hi, h.lo, fun m hm => by
    unfold cutR at hm
    obtain ⟨y, hy, rfl⟩ := List.mem_map.1 hm
    exact h.r y (List.mem_of_mem_take hy)⟩
theorem same_refl (x : Nt) (l : List Rw) : sameN x x l l = true := by
  unfold sameN; rw [sing_eqS]; unfold eqS eqT; simp
theorem same_true {x y : Nt} {l m : List Rw} (h : sameN x y l m = true) : x = y ∧ l = m := by
  unfold sameN at h
  rw [sing_eqS] at h
  simp only [Bool.and_eq_true, decide_eq_true_eq] at h
  obtain ⟨h1, h2⟩ := h
  refine ⟨?_, h2⟩
  obtain ⟨a, b, c, d, e, f, g, i⟩ := x
  obtain ⟨a', b', c', d', e', f', g', i'⟩ := y
  unfold eqS at h1
  simp only [Bool.and_eq_true, Bool.and_true] at h1
  obtain ⟨k1, k2, k3, k4, k5, k6, k7, k8⟩ := h1
  rw [eq_of_beq k1, eq_of_beq k2, eq_of_beq k3, eqT_eq k4, ba_eq k5, eq_of_beq k6, eq_of_beq k7, eq_of_beq k8]
end Go.Proofs.YteahloddjekakaaDoor.Nt
