/-
  The reference's Encode of a note of whatever kind. Conditions: its texts have at most 100000 bytes, it has fewer than 1000 rows.
-/
import Derived.Test.YteahloddjekakaaDoorNM18
import Derived.Test.YteahloddjekakaaDoorNEnc
namespace Go.Proofs.YteahloddjekakaaDoor.Nt
open Go.RowKit Td

theorem RB.one (w : World) (x : Int) : RB w w.heap.size (.slice (some ⟨w.heap.size, 0, none⟩) 1 1) [x] (w.alloc (.cells #[.int .u8 x] 5)) :=
  RB.of (bs := [x]) (Oc.own_one w x) ((Below.refl _ _).alloc (Nat.le_refl _) _)
set_option maxRecDepth 100000 in
set_option maxHeartbeats 16000000 in
theorem renc_q (w : World) (x : Nt) (A : Option Addr) (n c : Nat) (lr : List Rw) (m dn lo : Nat) (hm : x.k = (m : Int)) (h2 : m ≤ 12) (q0 q1 q2 q3 q4 q5 q6 : Bool) (g0 : q0 = askB (m : Int) 112) (g1 : q1 = askB (m : Int) 100) (g2 : q2 = askB (m : Int) 116) (g3 : q3 = askB (m : Int) 110) (g4 : q4 = askB (m : Int) 97) (g5 : q5 = askB (m : Int) 114) (g6 : q6 = askB (m : Int) 99)
    (hp0 : 0 ≤ x.p) (hp2 : x.p < 256) (hd : x.d = (dn : Int)) (hd2 : dn < 9223372036854775808) (ht1 : I64 x.t.n) (ht2 : I64 x.t.q) (ht3 : I64 x.t.p) (ha : I64 x.a) (hh : I64 x.hi) (hlo : x.lo = (lo : Int)) (hlo2 : lo < 18446744073709551616)
    (hl : RR w A lr) (hn : lr.length = n) (hn4 : n < 1000) (hi : ∀ r ∈ lr, I64 r.2 ∧ r.1.size ≤ 100000) (hb : x.t.b.size ≤ 100000) (hs : x.t.s.size ≤ 100000) (hti : x.t.i.size ≤ 100000) (hxn : x.n.size ≤ 100000) (hr : (encQ q0 q1 q2 q3 q4 q5 q6 m x dn lo lr).length ≤ 1048576) :
    Calls Tryd.prog 20 #[.agg #[.int .i64 x.k, .int .i64 x.p, .int .i64 x.d, .int .i64 x.t.n, .string x.t.b, .string x.t.s, .string x.t.i, .int .i64 x.t.q, .int .i64 x.t.p, .string x.n, .int .i64 x.a, .slice A n c, .int .i64 x.hi, .int .u64 x.lo]] w fun e w' => ∃ v, e = .returned v ∧ RB w (w.heap.size + 1) v (encQ q0 q1 q2 q3 q4 q5 q6 m x dn lo lr) w' := by
  obtain ⟨e0, he0⟩ : ∃ e, e = [(m : Int)] := ⟨_, rfl⟩
  obtain ⟨e1, he1⟩ : ∃ e, e = e0 ++ pt q0 [x.p] := ⟨_, rfl⟩
  obtain ⟨e2, he2⟩ : ∃ e, e = e1 ++ pt q1 (Oc.grp dn) := ⟨_, rfl⟩
  obtain ⟨e3, he3⟩ : ∃ e, e = e2 ++ pt q2 (trB x.t) := ⟨_, rfl⟩
  obtain ⟨e4, he4⟩ : ∃ e, e = e3 ++ pt q3 (tx x.n) := ⟨_, rfl⟩
  obtain ⟨e5, he5⟩ : ∃ e, e = e4 ++ pt q4 (nb x.a) := ⟨_, rfl⟩
  obtain ⟨e6, he6⟩ : ∃ e, e = e5 ++ pt q5 (rowsB lr) := ⟨_, rfl⟩
  obtain ⟨e7, he7⟩ : ∃ e, e = e6 ++ pt q6 (nb x.hi ++ Oc.wordF 8 lo) := ⟨_, rfl⟩
  have hall : encQ q0 q1 q2 q3 q4 q5 q6 m x dn lo lr = e7 := by rw [he7, he6, he5, he4, he3, he2, he1, he0]; rfl
  rw [hall] at hr ⊢
  have R7 : Hid ((e6 ++ pt q6 (nb x.hi ++ Oc.wordF 8 lo)).length ≤ 1048576) := by show _ ≤ _; rw [← he7]; exact hr
  have r6 : e6.length ≤ 1048576 := by have := R7.out; rw [List.length_append] at this; omega
  have R6 : Hid ((e5 ++ pt q5 (rowsB lr)).length ≤ 1048576) := by show _ ≤ _; rw [← he6]; exact r6
  have r5 : e5.length ≤ 1048576 := by have := R6.out; rw [List.length_append] at this; omega
  have R5 : Hid ((e4 ++ pt q4 (nb x.a)).length ≤ 1048576) := by show _ ≤ _; rw [← he5]; exact r5
  have r4 : e4.length ≤ 1048576 := by have := R5.out; rw [List.length_append] at this; omega
  have R4 : Hid ((e3 ++ pt q3 (tx x.n)).length ≤ 1048576) := by show _ ≤ _; rw [← he4]; exact r4
  have r3 : e3.length ≤ 1048576 := by have := R4.out; rw [List.length_append] at this; omega
  have R3 : Hid ((e2 ++ pt q2 (trB x.t)).length ≤ 1048576) := by show _ ≤ _; rw [← he3]; exact r3
  have r2 : e2.length ≤ 1048576 := by have := R3.out; rw [List.length_append] at this; omega
  have R2 : Hid ((e1 ++ pt q1 (Oc.grp dn)).length ≤ 1048576) := by show _ ≤ _; rw [← he2]; exact r2
  have r1 : e1.length ≤ 1048576 := by have := R2.out; rw [List.length_append] at this; omega
  have R1 : Hid ((e0 ++ pt q0 [x.p]).length ≤ 1048576) := by show _ ≤ _; rw [← he1]; exact r1
  clear hall hr r1 r2 r3 r4 r5 r6
  have HE0 := Lib.hid he0
  have HE1 := Lib.hid he1
  have HE2 := Lib.hid he2
  have HE3 := Lib.hid he3
  have HE4 := Lib.hid he4
  have HE5 := Lib.hid he5
  have HE6 := Lib.hid he6
  have HE7 := Lib.hid he7
  clear he0 he1 he2 he3 he4 he5 he6 he7
  have E0 := block_new w (.cells #[.int .i64 x.k, .int .i64 x.p, .int .i64 x.d, .int .i64 x.t.n, .string x.t.b, .string x.t.s, .string x.t.i, .int .i64 x.t.q, .int .i64 x.t.p, .string x.n, .int .i64 x.a, .slice A n c, .int .i64 x.hi, .int .u64 x.lo] 27)
  have hB0 : Below w.heap.size w (w.alloc (.cells #[.int .i64 x.k, .int .i64 x.p, .int .i64 x.d, .int .i64 x.t.n, .string x.t.b, .string x.t.s, .string x.t.i, .int .i64 x.t.q, .int .i64 x.t.p, .string x.n, .int .i64 x.a, .slice A n c, .int .i64 x.hi, .int .u64 x.lo] 27)) := (Below.refl _ _).alloc (Nat.le_refl _) _
  have HB0 := Lib.hid hB0
  have HM := Lib.hid hm
  have HG0 := Lib.hid (fun W => asks_any W (m : Int) 112 (Lib.hid g0))
  have HG1 := Lib.hid (fun W => asks_any W (m : Int) 100 (Lib.hid g1))
  have HG2 := Lib.hid (fun W => asks_any W (m : Int) 116 (Lib.hid g2))
  have HG3 := Lib.hid (fun W => asks_any W (m : Int) 110 (Lib.hid g3))
  have HG4 := Lib.hid (fun W => asks_any W (m : Int) 97 (Lib.hid g4))
  have HG5 := Lib.hid (fun W => asks_any W (m : Int) 114 (Lib.hid g5))
  have HG6 := Lib.hid (fun W => asks_any W (m : Int) 99 (Lib.hid g6))
  have HP1 := Lib.hid (show ∀ W, Calls Tryd.prog 49 #[.int .u64 (IntKind.u64.wrap x.d)] W fun e w' => ∃ v, e = .returned v ∧ w'.ownsRow W.heap.size 5 1 v (Oc.grp dn).length (Oc.bv (Oc.grp dn)) ∧ Below W.heap.size W w' from fun W => by rw [hd, show IntKind.u64.wrap (dn : Int) = (dn : Int) by rw [IntKind.wrap_u64]; omega]; exact Oc.fgroups_any W dn (by omega))
  have HP2 := Lib.hid (fun W => rTPut_any W x.t ht1 ht2 ht3 hb hs hti)
  have HP3 := Lib.hid (fun W => rtext_any W x.n hxn)
  have HP4 := Lib.hid (fun W => rnumber_any W x.a ha)
  have HP5 := Lib.hid (fun W => Oc.fgroups_any W n (by omega))
  have HP6 := Lib.hid (fun W => rnumber_any W x.hi hh)
  have HP7 := Lib.hid (show ∀ W, Calls Tryd.prog 53 #[.int .u64 x.lo] W fun e w' => ∃ v, e = .returned v ∧ w'.ownsRow W.heap.size 5 1 v (Oc.wordF 8 lo).length (Oc.bv (Oc.wordF 8 lo)) ∧ Below W.heap.size W w' from fun W => by rw [hlo]; exact Oc.fword_any W lo hlo2)
  have HL1 := (Oc.grp_len dn).2
  have HL2 : 1 ≤ (trB x.t).length := by have := (nb_len x.t.n).2; rw [trB_len]; omega
  have HL3 := (tx_len2 x.n).2
  have HL4 := (nb_len x.a).2
  have HL5 := (Oc.grp_len n).2
  have HL6 := (nb_len x.hi).2
  have HLA := Lib.hid (And.intro HL1 (And.intro HL2 (And.intro HL3 (And.intro HL4 (And.intro HL5 HL6)))))
  have HL := Lib.hid hl
  have HN := Lib.hid hn
  have HI := Lib.hid hi
  have hwn : IntKind.u64.wrap (n : Int) = (n : Int) := by rw [IntKind.wrap_u64]; omega
  have hu : IntKind.u8.wrap (m : Int) = (m : Int) := by unfold IntKind.wrap; simp [IntKind.bits, IntKind.signed]; omega
  have hup : IntKind.u8.wrap x.p = x.p := by unfold IntKind.wrap; simp [IntKind.bits, IntKind.signed]; omega
  clear hB0 hm h2 g0 g1 g2 g3 g4 g5 g6 hd hd2 ht1 ht2 ht3 ha hh hlo hlo2 hl hn hi hb hs hti hxn HL1 HL2 HL3 HL4 HL5 HL6
  go_enter Tryd.func20, Tryd.ntmps20
  go_upto_region 1 with fail
  have hsz : (w.alloc (.cells #[.int .i64 x.k, .int .i64 x.p, .int .i64 x.d, .int .i64 x.t.n, .string x.t.b, .string x.t.s, .string x.t.i, .int .i64 x.t.q, .int .i64 x.t.p, .string x.n, .int .i64 x.a, .slice A n c, .int .i64 x.hi, .int .u64 x.lo] 27)).heap.size = w.heap.size + 1 := by simp
  have HSZ := Lib.hid hsz
  generalize w.alloc _ = W0 at E0 HB0 HSZ ⊢
  obtain ⟨nbk, hnb⟩ : ∃ nbk, nbk = w.heap.size := ⟨_, rfl⟩
  rw [← hnb] at E0 ⊢
  clear hnb hsz
  have HE := Lib.hid E0
  have x0 : W0.cell? ⟨nbk, 0, none⟩ = some (.int .i64 (m : Int)) := by rw [← HM.out]; exact (blk14 E0).1.1
  clear E0
  have HS := Lib.hid (RB.one W0 (m : Int))
  rw [← HE0.out] at HS
  go_upto_region 3 with fail
  generalize W0.alloc _ = wc at HS ⊢
  obtain ⟨A0, n0, c0, hA0⟩ := HS.out.form
  rw [hA0] at HS ⊢
  clear hA0 x0
  go_upto_if 12 with (go_at_call 34; (with_reducible refine (HG0.out _).mono ?_); rintro e w5 ⟨rfl, hb⟩; have HS5 := Lib.hid (HS.out.kept hb); clear hb HS)
  obtain ⟨⟨x0, x1, x2, x3, x4, x5, x6⟩, x7, x8, x9, x10, x11, x12, x13⟩ := blk14 (block_kept HE.out HS5.out.bel)
  go_cut [4] from 12 to 18 (fun s4 wx => ∃ A1 n1 c1, s4 = .slice A1 n1 c1 ∧ Hid (RB W0 W0.heap.size (.slice A1 n1 c1) e1 wx))
  case first =>
    cases q0
    · have HQ : Hid (e1 = e0) := by show _ = _; rw [HE1.out]; exact List.append_nil _
      go_wp2_with fail
      go_meet
      exact ⟨_, _, _, rfl, by rw [HQ.out]; exact HS5.out⟩
    · have HQ : Hid (e0 ++ [x.p] = e1) := by show _ = _; rw [HE1.out]; rfl
      obtain ⟨A2, n2, c2, y2, hrun, t2⟩ := HS5.out.app (bs := [x.p]) (Oc.own_one w5 x.p) ((Below.refl _ _).alloc (Nat.le_refl _) _) (by simp) (by have := R1.out; simp only [pt, List.length_append, List.length_cons, List.length_nil] at this; (try simp only [List.length_cons, List.length_nil]); omega)
      have HT := Lib.hid t2
      rw [HQ.out] at HT
      clear t2
      go_wp2_with (at_builtin; refine Lib.wpList_append_run _ rfl _ _ _ _ rfl _ _ rfl rfl _ _ hrun ?_; clear hrun)
      go_meet
      exact ⟨_, _, _, rfl, HT.out⟩
  case rest =>
  obtain ⟨A1, n1, c1, rfl, hs⟩ := hcut
  have HS := Lib.hid hs.out
  clear hs HS5 x0 x1 x2 x3 x4 x5 x6 x7 x8 x9 x10 x11 x12 x13
  go_upto_if 20 with (go_at_call 34; (with_reducible refine (HG1.out _).mono ?_); rintro e w5 ⟨rfl, hb⟩; have HS5 := Lib.hid (HS.out.kept hb); clear hb HS)
  obtain ⟨⟨x0, x1, x2, x3, x4, x5, x6⟩, x7, x8, x9, x10, x11, x12, x13⟩ := blk14 (block_kept HE.out HS5.out.bel)
  go_cut [4] from 20 to 26 (fun s4 wx => ∃ A1 n1 c1, s4 = .slice A1 n1 c1 ∧ Hid (RB W0 W0.heap.size (.slice A1 n1 c1) e2 wx))
  case first =>
    cases q1
    · have HQ : Hid (e2 = e1) := by show _ = _; rw [HE2.out]; exact List.append_nil _
      go_wp2_with fail
      go_meet
      exact ⟨_, _, _, rfl, by rw [HQ.out]; exact HS5.out⟩
    · have HQ : Hid (e1 ++ (Oc.grp dn) = e2) := by show _ = _; rw [HE2.out]; rfl
      go_wp2_with (first
        | (at_builtin; refine Lib.wpList_append_run _ rfl _ _ _ _ rfl _ _ rfl rfl _ _ hrun ?_; clear hrun)
        | (go_at_call 49; (with_reducible refine (HP1.out _).mono ?_); rintro e z1 ⟨u, rfl, ho, hb⟩
           obtain ⟨A1', n1', k1', y1, hrun, t1⟩ := HS5.out.app ho hb HLA.out.1 (by have := R2.out; simp only [pt, List.length_append] at this; (try simp only [List.length_append, List.length_cons, List.length_nil, Oc.wordF_len]); omega)
           obtain ⟨_, _, _, rfl⟩ := (RB.of ho hb).form
           have HT := Lib.hid t1
           clear ho hb t1))
      go_meet
      exact ⟨_, _, _, rfl, by rw [← HQ.out]; exact HT.out⟩
  case rest =>
  obtain ⟨A2, n2, c2, rfl, hs⟩ := hcut
  have HS := Lib.hid hs.out
  clear hs HS5 x0 x1 x2 x3 x4 x5 x6 x7 x8 x9 x10 x11 x12 x13
  go_upto_if 28 with (go_at_call 34; (with_reducible refine (HG2.out _).mono ?_); rintro e w5 ⟨rfl, hb⟩; have HS5 := Lib.hid (HS.out.kept hb); clear hb HS)
  obtain ⟨⟨x0, x1, x2, x3, x4, x5, x6⟩, x7, x8, x9, x10, x11, x12, x13⟩ := blk14 (block_kept HE.out HS5.out.bel)
  go_cut [4] from 28 to 33 (fun s4 wx => ∃ A1 n1 c1, s4 = .slice A1 n1 c1 ∧ Hid (RB W0 W0.heap.size (.slice A1 n1 c1) e3 wx))
  case first =>
    cases q2
    · have HQ : Hid (e3 = e2) := by show _ = _; rw [HE3.out]; exact List.append_nil _
      go_wp2_with fail
      go_meet
      exact ⟨_, _, _, rfl, by rw [HQ.out]; exact HS5.out⟩
    · have HQ : Hid (e2 ++ (trB x.t) = e3) := by show _ = _; rw [HE3.out]; rfl
      go_wp2_with (first
        | (at_builtin; refine Lib.wpList_append_run _ rfl _ _ _ _ rfl _ _ rfl rfl _ _ hrun ?_; clear hrun)
        | (go_at_call 50; (with_reducible refine (HP2.out _).mono ?_); rintro e z1 ⟨u, rfl, ho, hb⟩
           obtain ⟨A1', n1', k1', y1, hrun, t1⟩ := HS5.out.app ho hb HLA.out.2.1 (by have := R3.out; simp only [pt, List.length_append] at this; (try simp only [List.length_append, List.length_cons, List.length_nil, Oc.wordF_len]); omega)
           obtain ⟨_, _, _, rfl⟩ := (RB.of ho hb).form
           have HT := Lib.hid t1
           clear ho hb t1))
      go_meet
      exact ⟨_, _, _, rfl, by rw [← HQ.out]; exact HT.out⟩
  case rest =>
  obtain ⟨A3, n3, c3, rfl, hs⟩ := hcut
  have HS := Lib.hid hs.out
  clear hs HS5 x0 x1 x2 x3 x4 x5 x6 x7 x8 x9 x10 x11 x12 x13
  go_upto_if 35 with (go_at_call 34; (with_reducible refine (HG3.out _).mono ?_); rintro e w5 ⟨rfl, hb⟩; have HS5 := Lib.hid (HS.out.kept hb); clear hb HS)
  obtain ⟨⟨x0, x1, x2, x3, x4, x5, x6⟩, x7, x8, x9, x10, x11, x12, x13⟩ := blk14 (block_kept HE.out HS5.out.bel)
  go_cut [4] from 35 to 40 (fun s4 wx => ∃ A1 n1 c1, s4 = .slice A1 n1 c1 ∧ Hid (RB W0 W0.heap.size (.slice A1 n1 c1) e4 wx))
  case first =>
    cases q3
    · have HQ : Hid (e4 = e3) := by show _ = _; rw [HE4.out]; exact List.append_nil _
      go_wp2_with fail
      go_meet
      exact ⟨_, _, _, rfl, by rw [HQ.out]; exact HS5.out⟩
    · have HQ : Hid (e3 ++ (tx x.n) = e4) := by show _ = _; rw [HE4.out]; rfl
      go_wp2_with (first
        | (at_builtin; refine Lib.wpList_append_run _ rfl _ _ _ _ rfl _ _ rfl rfl _ _ hrun ?_; clear hrun)
        | (go_at_call 51; (with_reducible refine (HP3.out _).mono ?_); rintro e z1 ⟨u, rfl, ho, hb⟩
           obtain ⟨A1', n1', k1', y1, hrun, t1⟩ := HS5.out.app ho hb HLA.out.2.2.1 (by have := R4.out; simp only [pt, List.length_append] at this; (try simp only [List.length_append, List.length_cons, List.length_nil, Oc.wordF_len]); omega)
           obtain ⟨_, _, _, rfl⟩ := (RB.of ho hb).form
           have HT := Lib.hid t1
           clear ho hb t1))
      go_meet
      exact ⟨_, _, _, rfl, by rw [← HQ.out]; exact HT.out⟩
  case rest =>
  obtain ⟨A4, n4, c4, rfl, hs⟩ := hcut
  have HS := Lib.hid hs.out
  clear hs HS5 x0 x1 x2 x3 x4 x5 x6 x7 x8 x9 x10 x11 x12 x13
  go_upto_if 42 with (go_at_call 34; (with_reducible refine (HG4.out _).mono ?_); rintro e w5 ⟨rfl, hb⟩; have HS5 := Lib.hid (HS.out.kept hb); clear hb HS)
  obtain ⟨⟨x0, x1, x2, x3, x4, x5, x6⟩, x7, x8, x9, x10, x11, x12, x13⟩ := blk14 (block_kept HE.out HS5.out.bel)
  go_cut [4] from 42 to 47 (fun s4 wx => ∃ A1 n1 c1, s4 = .slice A1 n1 c1 ∧ Hid (RB W0 W0.heap.size (.slice A1 n1 c1) e5 wx))
  case first =>
    cases q4
    · have HQ : Hid (e5 = e4) := by show _ = _; rw [HE5.out]; exact List.append_nil _
      go_wp2_with fail
      go_meet
      exact ⟨_, _, _, rfl, by rw [HQ.out]; exact HS5.out⟩
    · have HQ : Hid (e4 ++ (nb x.a) = e5) := by show _ = _; rw [HE5.out]; rfl
      go_wp2_with (first
        | (at_builtin; refine Lib.wpList_append_run _ rfl _ _ _ _ rfl _ _ rfl rfl _ _ hrun ?_; clear hrun)
        | (go_at_call 52; (with_reducible refine (HP4.out _).mono ?_); rintro e z1 ⟨u, rfl, ho, hb⟩
           obtain ⟨A1', n1', k1', y1, hrun, t1⟩ := HS5.out.app ho hb HLA.out.2.2.2.1 (by have := R5.out; simp only [pt, List.length_append] at this; (try simp only [List.length_append, List.length_cons, List.length_nil, Oc.wordF_len]); omega)
           obtain ⟨_, _, _, rfl⟩ := (RB.of ho hb).form
           have HT := Lib.hid t1
           clear ho hb t1))
      go_meet
      exact ⟨_, _, _, rfl, by rw [← HQ.out]; exact HT.out⟩
  case rest =>
  obtain ⟨A5, n5, c5, rfl, hs⟩ := hcut
  have HS := Lib.hid hs.out
  clear hs HS5 x0 x1 x2 x3 x4 x5 x6 x7 x8 x9 x10 x11 x12 x13
  go_upto_if 49 with (go_at_call 34; (with_reducible refine (HG5.out _).mono ?_); rintro e w5 ⟨rfl, hb⟩; have HS5 := Lib.hid (HS.out.kept hb); clear hb HS)
  obtain ⟨⟨x0, x1, x2, x3, x4, x5, x6⟩, x7, x8, x9, x10, x11, x12, x13⟩ := blk14 (block_kept HE.out HS5.out.bel)
  go_cut [4, 5] from 49 to 81 (fun s4 _ wx => ∃ A1 n1 c1, s4 = .slice A1 n1 c1 ∧ Hid (RB W0 W0.heap.size (.slice A1 n1 c1) e6 wx))
  case first =>
    cases q5
    · have HQ : Hid (e6 = e5) := by show _ = _; rw [HE6.out]; exact List.append_nil _
      go_wp2_with fail
      go_meet
      exact ⟨_, _, _, rfl, by rw [HQ.out]; exact HS5.out⟩
    · have HQ : Hid (e5 ++ Oc.grp n ++ rwB lr = e6) := by show _ = _; rw [HE6.out]; show _ = e5 ++ rowsB lr; rw [rowsB, HN.out, List.append_assoc]
      go_wp2_with (first
        | (at_builtin; refine Lib.wpList_append_run _ rfl _ _ _ _ rfl _ _ rfl rfl _ _ hrun ?_; clear hrun)
        | (go_at_call 49; (with_reducible refine (HP5.out _).mono ?_); rintro e z1 ⟨u, rfl, ho, hb⟩
           obtain ⟨A1', n1', k1', y1, hrun, t1⟩ := HS5.out.app ho hb HLA.out.2.2.2.2.1 (by have := R6.out; simp only [pt, rowsB, List.length_append, HN.out] at this; (try simp only [List.length_append, List.length_cons, List.length_nil, Oc.wordF_len]); omega)
           obtain ⟨_, _, _, rfl⟩ := (RB.of ho hb).form
           have HT := Lib.hid t1
           clear ho hb t1 x0 x1 x2 x3 x4 x5 x6 x7 x8 x9 x10 x11 x12 x13; obtain ⟨⟨x0, x1, x2, x3, x4, x5, x6⟩, x7, x8, x9, x10, x11, x12, x13⟩ := blk14 (block_kept HE.out HT.out.bel)))
      go_loopg [4, 5] n (fun (gh : Nat) s4 s5 wx => ∃ (i : Nat) (A1 : Option Addr) (n1 c1 : Nat), gh = n - i ∧ i ≤ n ∧ s4 = .slice A1 n1 c1 ∧ s5 = .int .i64 (i : Int) ∧ Hid (RB W0 W0.heap.size (.slice A1 n1 c1) (e5 ++ Oc.grp n ++ rwB (lr.take i)) wx))
      case atStart => exact ⟨0, _, _, _, rfl, Nat.zero_le _, rfl, rfl, by have := HT.out; show RB _ _ _ _ _; simpa [rwB] using this⟩
      case round =>
        clear HT HS5 x0 x1 x2 x3 x4 x5 x6 x7 x8 x9 x10 x11 x12 x13
        obtain ⟨i, A1, n1, c1, rfl, hi, rfl, rfl, hp⟩ := hrel
        have HS6 := Lib.hid hp.out
        clear hp
        obtain ⟨⟨x0, x1, x2, x3, x4, x5, x6⟩, x7, x8, x9, x10, x11, x12, x13⟩ := blk14 (block_kept HE.out HS6.out.bel)
        by_cases hlt : i < n
        · have t1 : (i : Int) < (n : Int) := by omega
          have t2 : (0 : Int) ≤ (i : Int) := by omega
          obtain ⟨r, hx⟩ : ∃ r, lr[i]? = some r := ⟨_, List.getElem?_eq_getElem (by rw [HN.out]; exact hlt)⟩
          obtain ⟨g, o, rfl, hg, cx, dx⟩ := (HL.out.below (HB0.out.trans (HS6.out.bel.mono HB0.out.size))).at hx
          have hri := HI.out r (List.mem_of_getElem? hx)
          have J1 := Lib.hid (fun W => rtext_any W r.1 hri.2)
          have J2 := Lib.hid (fun W => rnumber_any W r.2 hri.1)
          have hsucc := rwB_succ hx
          have hlen : (e5 ++ Oc.grp n ++ rwB (lr.take i)).length + (tx r.1).length + (nb r.2).length ≤ 1048576 := by
            have h1 := R6.out
            have h2 := rwB_take lr (i + 1)
            rw [hsucc] at h2
            simp only [pt, rowsB, List.length_append, HN.out] at h1 h2 ⊢
            omega
          have Q1 : Hid ((e5 ++ Oc.grp n ++ rwB (lr.take i)).length + (tx r.1).length ≤ 1048576) := by show _ ≤ _; omega
          have Q2 : Hid ((e5 ++ Oc.grp n ++ rwB (lr.take i) ++ tx r.1).length + (nb r.2).length ≤ 1048576) := by show _ ≤ _; rw [List.length_append (bs := tx r.1)]; omega
          have HX : Hid (e5 ++ Oc.grp n ++ rwB (lr.take i) ++ tx r.1 ++ nb r.2 = e5 ++ Oc.grp n ++ rwB (lr.take (i + 1))) := by show _ = _; rw [hsucc]; simp
          have HXX := Lib.hid hx
          clear hri hsucc hlen hx hg
          go_wp2_with (first
            | (at_builtin; refine Lib.wpList_append_run _ rfl _ _ _ _ rfl _ _ rfl rfl _ _ hrun ?_; clear hrun)
            | (go_at_call 51; (with_reducible refine (J1.out _).mono ?_); rintro e z1 ⟨u, rfl, ho, hb⟩
               obtain ⟨A2', n2', k2', y2, hrun, t2⟩ := HS6.out.app ho hb (tx_len2 r.1).2 Q1.out
               obtain ⟨_, _, _, rfl⟩ := (RB.of ho hb).form
               have T2 := Lib.hid t2
               clear ho hb t2 x0 x1 x2 x3 x4 x5 x6 x7 x8 x9 x10 x11 x12 x13 cx dx
               obtain ⟨g2, o2, e2, _, cx, dx⟩ := (HL.out.below (HB0.out.trans (T2.out.bel.mono HB0.out.size))).at HXX.out
               cases e2
               obtain ⟨⟨x0, x1, x2, x3, x4, x5, x6⟩, x7, x8, x9, x10, x11, x12, x13⟩ := blk14 (block_kept HE.out T2.out.bel))
            | (go_at_call 52; (with_reducible refine (J2.out _).mono ?_); rintro e z3 ⟨u, rfl, ho, hb⟩
               obtain ⟨A3', n3', k3', y3, hrun, t3⟩ := T2.out.app ho hb (nb_len r.2).2 Q2.out
               obtain ⟨_, _, _, rfl⟩ := (RB.of ho hb).form
               have T3 := Lib.hid t3
               clear ho hb t3))
          go_roundg (n - (i + 1))
          case measure => omega
          case rel => exact ⟨i + 1, _, _, _, rfl, hlt, rfl, by simp, by rw [← HX.out]; exact T3.out⟩
        · obtain rfl : i = n := by omega
          have t1 : ¬ (i : Int) < (i : Int) := by omega
          have hp2 := HS6.out
          rw [List.take_of_length_le (by rw [HN.out]; exact Nat.le_refl _), HQ.out] at hp2
          have HP := Lib.hid hp2
          clear HS6 hp2
          go_wp2_with fail
          go_meet
          exact ⟨_, _, _, rfl, HP.out⟩
  case rest =>
  obtain ⟨A6, n6, c6, rfl, hs⟩ := hcut
  have HS := Lib.hid hs.out
  clear hs HS5 x0 x1 x2 x3 x4 x5 x6 x7 x8 x9 x10 x11 x12 x13
  go_upto_if 83 with (go_at_call 34; (with_reducible refine (HG6.out _).mono ?_); rintro e w5 ⟨rfl, hb⟩; have HS5 := Lib.hid (HS.out.kept hb); clear hb HS)
  obtain ⟨⟨x0, x1, x2, x3, x4, x5, x6⟩, x7, x8, x9, x10, x11, x12, x13⟩ := blk14 (block_kept HE.out HS5.out.bel)
  go_cut [4] from 83 to 93 (fun s4 wx => ∃ A1 n1 c1, s4 = .slice A1 n1 c1 ∧ Hid (RB W0 W0.heap.size (.slice A1 n1 c1) e7 wx))
  case first =>
    cases q6
    · have HQ : Hid (e7 = e6) := by show _ = _; rw [HE7.out]; exact List.append_nil _
      go_wp2_with fail
      go_meet
      exact ⟨_, _, _, rfl, by rw [HQ.out]; exact HS5.out⟩
    · have HQ : Hid (e6 ++ nb x.hi ++ Oc.wordF 8 lo = e7) := by show _ = _; rw [HE7.out, List.append_assoc]; rfl
      go_wp2_with (first
        | (at_builtin; refine Lib.wpList_append_run _ rfl _ _ _ _ rfl _ _ rfl rfl _ _ hrun ?_; clear hrun)
        | (go_at_call 52; (with_reducible refine (HP6.out _).mono ?_); rintro e z1 ⟨u, rfl, ho, hb⟩
           obtain ⟨A1', n1', k1', y1, hrun, t1⟩ := HS5.out.app ho hb HLA.out.2.2.2.2.2 (by have := R7.out; simp only [pt, List.length_append, Oc.wordF_len] at this; (try simp only [List.length_append, List.length_cons, List.length_nil, Oc.wordF_len]); omega)
           obtain ⟨_, _, _, rfl⟩ := (RB.of ho hb).form
           have HT := Lib.hid t1
           clear ho hb t1 x0 x1 x2 x3 x4 x5 x6 x7 x8 x9 x10 x11 x12 x13; obtain ⟨⟨x0, x1, x2, x3, x4, x5, x6⟩, x7, x8, x9, x10, x11, x12, x13⟩ := blk14 (block_kept HE.out HT.out.bel))
        | (go_at_call 53; (with_reducible refine (HP7.out _).mono ?_); rintro e z2 ⟨u, rfl, ho, hb⟩
           obtain ⟨A2', n2', k2', y2, hrun, t2⟩ := HT.out.app ho hb (by rw [Oc.wordF_len]; omega) (by have := R7.out; simp only [pt, List.length_append, Oc.wordF_len] at this; (try simp only [List.length_append, Oc.wordF_len]); omega)
           obtain ⟨_, _, _, rfl⟩ := (RB.of ho hb).form
           have HT2 := Lib.hid t2
           clear ho hb t2))
      go_meet
      exact ⟨_, _, _, rfl, by rw [← HQ.out]; exact HT2.out⟩
  case rest =>
  obtain ⟨A7, n7, c7, rfl, hs⟩ := hcut
  have HS := Lib.hid hs.out
  clear hs HS5 x0 x1 x2 x3 x4 x5 x6 x7 x8 x9 x10 x11 x12 x13
  go_wp2_with fail
  go_ret
  exact ⟨_, rfl, by rw [← HSZ.out]; exact HS.out.own, HB0.out.trans (HS.out.bel.mono HB0.out.size), by omega, by rw [← HSZ.out]; exact HS.out.h2⟩
end Go.Proofs.YteahloddjekakaaDoor.Nt
