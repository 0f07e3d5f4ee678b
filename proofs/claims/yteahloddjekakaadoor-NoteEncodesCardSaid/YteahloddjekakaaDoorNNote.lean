/-
  The reader's note, told by functions. Conditions: the table of kinds lies as the program's text lays it.
-/
import Derived.Test.YteahloddjekakaaDoorNM17
namespace Go.Proofs.YteahloddjekakaaDoor.Nt
open Go.RowKit Td

/-- A note of the kind k that has nothing. -/
def ntZ (k : Int) : Nt := ⟨k, 0, 0, zT, { data := #[] }, 0, 0, 0⟩
theorem heap_put {W : World} {c : Nat} {cs : Array Value} {t : TypeId} (h : W.heap[c]? = some (.cells cs t (0, 0))) (j : Nat) (v : Value) : (W.setCell ⟨c, j, none⟩ v).heap[c]? = some (.cells (cs.setIfInBounds j v) t (0, 0)) := by
  simp only [World.setCell, Array.getElem?_modify, if_true]
  rw [h]; rfl
theorem DS.putT {W0 W : World} {b t3 t4 : Nat} {bs : Array Value} {er : Int} {l : List Int} {y : Nt} {A : Option Addr} {n c : Nat} {rs : List Rw} (S : DS W0 b t3 t4 bs er l y A n c rs W) (t : Tr) :
    DS W0 b t3 t4 bs er l { y with t := t } A n c rs ((((((W.setCell ⟨t3, 3, none⟩ (.int .i64 t.n)).setCell ⟨t3, 4, none⟩ (.string t.b)).setCell ⟨t3, 5, none⟩ (.string t.s)).setCell ⟨t3, 6, none⟩ (.string t.i)).setCell ⟨t3, 7, none⟩ (.int .i64 t.q)).setCell ⟨t3, 8, none⟩ (.int .i64 t.p)) := by
  have s1 := S.put (y' := { y with t := { y.t with n := t.n } }) 3 (.int .i64 t.n) (heap_put S.h3 3 _)
  have s2 := s1.put (y' := { y with t := { y.t with n := t.n, b := t.b } }) 4 (.string t.b) (heap_put s1.h3 4 _)
  have s3 := s2.put (y' := { y with t := { y.t with n := t.n, b := t.b, s := t.s } }) 5 (.string t.s) (heap_put s2.h3 5 _)
  have s4 := s3.put (y' := { y with t := { y.t with n := t.n, b := t.b, s := t.s, i := t.i } }) 6 (.string t.i) (heap_put s3.h3 6 _)
  have s5 := s4.put (y' := { y with t := { y.t with n := t.n, b := t.b, s := t.s, i := t.i, q := t.q } }) 7 (.int .i64 t.q) (heap_put s4.h3 7 _)
  exact s5.put (y' := { y with t := t }) 8 (.int .i64 t.p) (heap_put s5.h3 8 _)
theorem DS.putW {W0 W : World} {b t3 t4 : Nat} {bs : Array Value} {er : Int} {l : List Int} {y : Nt} {A : Option Addr} {n c : Nat} {rs : List Rw} (S : DS W0 b t3 t4 bs er l y A n c rs W) (hi lo : Int) :
    DS W0 b t3 t4 bs er l { y with hi := hi, lo := lo } A n c rs ((W.setCell ⟨t3, 12, none⟩ (.int .i64 hi)).setCell ⟨t3, 13, none⟩ (.int .u64 lo)) := by
  have s1 := S.put (y' := { y with hi := hi }) 12 (.int .i64 hi) (heap_put S.h3 12 _)
  exact s1.put (y' := { y with hi := hi, lo := lo }) 13 (.int .u64 lo) (heap_put s1.h3 13 _)
/-- Only the block c is written. -/
structure On (c : Nat) (W W' : World) : Prop where
  hk : ∀ k, k ≠ c → W'.heap[k]? = W.heap[k]?
  hs : W.heap.size ≤ W'.heap.size
  ho : W'.os = W.os
  ht : W'.tape = W.tape
  hu : W'.output = W.output
theorem On.refl (c : Nat) (W : World) : On c W W := ⟨fun _ _ => rfl, Nat.le_refl _, rfl, rfl, rfl⟩
theorem On.set {c : Nat} {W W' : World} (h : On c W W') (j : Nat) (v : Value) : On c W (W'.setCell ⟨c, j, none⟩ v) :=
  ⟨fun k hk => (Below.heap_setCell _ _ _ _ hk).trans (h.hk k hk), Nat.le_trans h.hs (by simp [World.setCell]), h.ho, h.ht, h.hu⟩
theorem DS.putR {W0 W : World} {b t3 t4 B : Nat} {bs : Array Value} {er : Int} {l : List Int} {y : Nt} {A0 A : Option Addr} {n0 c0 n c : Nat} {rs0 rs : List Rw} (S : DS W0 b t3 t4 bs er l y A0 n0 c0 rs0 W) (ho : W.ownsRow B 58 2 (.slice A n c) rs.length (rcl rs)) (hB : t4 + 1 ≤ B) :
    DS W0 b t3 t4 bs er l y A n c rs (W.setCell ⟨t3, 11, none⟩ (.slice A n c)) :=
  ⟨S.gs.set1 (by have := S.hb; have := S.ht; omega) S.ht 11 _, heap_put S.h3 11 _, (Below.heap_setCell _ _ _ _ (by show t4 ≠ t3; have := S.h34; omega)).trans S.h4,
    Oc.ownsRow_base (Oc.ownsRow_kept ho (fun g hg => Below.heap_setCell _ _ _ _ (by show g ≠ t3; have := (ho.lt g hg).1; have := S.h34; omega))) hB, S.hb, S.ht, S.h34⟩
set_option maxRecDepth 100000 in
set_option maxHeartbeats 16000000 in
theorem note_l (w : World) (hk : KinC w) (b : Nat) (er : Int) (l : List Int) (hS : GS w b er l w) (h0b : 0 < b) (m : Nat) (hm : m ≤ 12) (e0 e1 e2 e3 e4 e5 e6 : Int) (l0 l1 l2 l3 l4 l5 l6 : List Int) (y0 y1 y2 y3 y4 y5 : Nt) (rs : List Rw) (q0 q1 q2 q3 q4 q5 q6 : Bool) (g0 : kp m = q0) (g1 : kd m = q1) (g2 : kt m = q2) (g3 : kn m = q3) (g4 : ka m = q4) (g5 : kr m = q5) (g6 : kc m = q6)
    (f0 : kindF er l = (e0, (m : Int), l0)) (z0 : y0 = ntZ (m : Int))
    (f1 : (e1, l1, y1) = if q0 = true then ((Oc.byteF e0 l0).1, (Oc.byteF e0 l0).2.2, { y0 with p := (Oc.byteF e0 l0).2.1 }) else (e0, l0, y0))
    (f2 : (e2, l2, y2) = if q1 = true then ((cntF 9223372036854775807 e1 l1).1, (cntF 9223372036854775807 e1 l1).2.2, { y1 with d := (cntF 9223372036854775807 e1 l1).2.1 }) else (e1, l1, y1))
    (f3 : (e3, l3, y3) = if q2 = true then ((trF e2 l2).1, (trF e2 l2).2.2, { y2 with t := (trF e2 l2).2.1 }) else (e2, l2, y2))
    (f4 : (e4, l4, y4) = if q3 = true then ((txtF 12 e3 l3).1, (txtF 12 e3 l3).2.2, { y3 with n := (txtF 12 e3 l3).2.1 }) else (e3, l3, y3))
    (f5 : (e5, l5, y5) = if q4 = true then ((numF e4 l4).1, (numF e4 l4).2.2, { y4 with a := (numF e4 l4).2.1 }) else (e4, l4, y4))
    (f6 : (e6, rs, l6) = if q5 = true then rowsF e5 l5 else (e5, [], l5)) :
    Calls Tryd.prog 47 #[.agg #[.pointer (some ⟨b, 0, none⟩)]] w fun e w' => ∃ (A : Option Addr) (n c : Nat) (x : Nt) (e7 : Int) (l7 : List Int), e = .returned (.agg #[.int .i64 x.k, .int .i64 x.p, .int .i64 x.d, .int .i64 x.t.n, .string x.t.b, .string x.t.s, .string x.t.i, .int .i64 x.t.q, .int .i64 x.t.p, .string x.n, .int .i64 x.a, .slice A n c, .int .i64 x.hi, .int .u64 x.lo]) ∧ n = rs.length ∧ (RR w' A rs ∧ ∀ a, A = some a → w.heap.size ≤ a.block) ∧ GS w b e7 l7 w' ∧
      ((q6 = false ∧ x = y5 ∧ e7 = e6 ∧ l7 = l6) ∨ (q6 = true ∧ wideOk e6 l6 ∧ e7 = 0 ∧ l7 = (Oc.rg l6).2.2.drop 8 ∧ x = { y5 with hi := Oc.unf (Oc.rg l6).2.1, lo := (Oc.valN 0 ((Oc.rg l6).2.2.take 8) : Int) }) ∨ (q6 = true ∧ ¬ wideOk e6 l6 ∧ ¬ e7 = 0 ∧ x = { y5 with hi := 0, lo := 0 })) := by
  have hbl : b < w.heap.size := by obtain ⟨v, hv⟩ := hS.rd; exact hv.lt
  have E1 := block_new w (.cells #[.pointer (some ⟨b, 0, none⟩)] 89)
  have E2 := block_old E1 (.cells #[.int .i64 0, .int .i64 0, .int .i64 0, .int .i64 0, .string { data := #[] }, .string { data := #[] }, .string { data := #[] }, .int .i64 0, .int .i64 0, .string { data := #[] }, .int .i64 0, .slice none 0 0, .int .i64 0, .int .u64 0] 33)
  have E3 := block_new (w.alloc (.cells #[.pointer (some ⟨b, 0, none⟩)] 89)) (.cells #[.int .i64 0, .int .i64 0, .int .i64 0, .int .i64 0, .string { data := #[] }, .string { data := #[] }, .string { data := #[] }, .int .i64 0, .int .i64 0, .string { data := #[] }, .int .i64 0, .slice none 0 0, .int .i64 0, .int .u64 0] 33)
  have hsz : (w.alloc (.cells #[.pointer (some ⟨b, 0, none⟩)] 89)).heap.size = w.heap.size + 1 := by simp
  have hsz2 : ((w.alloc (.cells #[.pointer (some ⟨b, 0, none⟩)] 89)).alloc (.cells #[.int .i64 0, .int .i64 0, .int .i64 0, .int .i64 0, .string { data := #[] }, .string { data := #[] }, .string { data := #[] }, .int .i64 0, .int .i64 0, .string { data := #[] }, .int .i64 0, .slice none 0 0, .int .i64 0, .int .u64 0] 33)).heap.size = w.heap.size + 2 := by simp
  rw [hsz] at E3
  have HSW := Lib.hid ((hS.al (.cells #[.pointer (some ⟨b, 0, none⟩)] 89)).al (.cells #[.int .i64 0, .int .i64 0, .int .i64 0, .int .i64 0, .string { data := #[] }, .string { data := #[] }, .string { data := #[] }, .int .i64 0, .int .i64 0, .string { data := #[] }, .int .i64 0, .slice none 0 0, .int .i64 0, .int .u64 0] 33))
  have HSZ := Lib.hid hsz2
  have HK := Lib.hid ((hk.alloc (.cells #[.pointer (some ⟨b, 0, none⟩)] 89)).alloc (.cells #[.int .i64 0, .int .i64 0, .int .i64 0, .int .i64 0, .string { data := #[] }, .string { data := #[] }, .string { data := #[] }, .int .i64 0, .int .i64 0, .string { data := #[] }, .int .i64 0, .slice none 0 0, .int .i64 0, .int .u64 0] 33))
  have HBL := Lib.hid hbl
  have HB0 := Lib.hid h0b
  have HM := Lib.hid hm
  have F0 := Lib.hid f0
  have Z0 := Lib.hid z0
  have F1 := Lib.hid f1
  have F2 := Lib.hid f2
  have F3 := Lib.hid f3
  have F4 := Lib.hid f4
  have F5 := Lib.hid f5
  have F6 := Lib.hid f6
  have HG : Hid (kp m = q0 ∧ kd m = q1 ∧ kt m = q2 ∧ kn m = q3 ∧ ka m = q4 ∧ kr m = q5 ∧ kc m = q6) := ⟨g0, g1, g2, g3, g4, g5, g6⟩
  have hm13 : (m : Int) < 13 := by omega
  have hm0 : (0 : Int) ≤ (m : Int) := by omega
  clear hS hk h0b hm f0 z0 f1 f2 f3 f4 f5 f6 g0 g1 g2 g3 g4 g5 g6 E1 hsz hsz2 hbl
  go_enter Tryd.func47, Tryd.ntmps47
  go_upto_region 1 with fail
  generalize (w.alloc _).alloc _ = W0 at E2 E3 HSW HSZ HK ⊢
  have HE2 := Lib.hid E2
  have HE3 := Lib.hid E3
  have c0 := (Oc.block_cell E2).1
  have HG0 := Lib.hid HSW.out.base
  clear E2 E3
  go_upto_region 2 with (go_at_call 71; (with_reducible refine (kind_any HG0.out).mono ?_); rintro e w2 ⟨rfl, s⟩; rw [F0.out] at s ⊢; have S2 := Lib.hid s; clear s)
  have E4 := block_new w2 (.cells #[.int .i64 (m : Int), .int .i64 0, .int .i64 0, .int .i64 0, .string { data := #[] }, .string { data := #[] }, .string { data := #[] }, .int .i64 0, .int .i64 0, .string { data := #[] }, .int .i64 0, .slice none 0 0, .int .i64 0, .int .u64 0] 33)
  have KW := (HK.out.block S2.out.gr.size (S2.out.gr.block 0 HK.out.1 (fun e => by cases e; have := HB0.out; omega))).alloc (.cells #[.int .i64 (m : Int), .int .i64 0, .int .i64 0, .int .i64 0, .string { data := #[] }, .string { data := #[] }, .string { data := #[] }, .int .i64 0, .int .i64 0, .string { data := #[] }, .int .i64 0, .slice none 0 0, .int .i64 0, .int .u64 0] 33)
  have S3 := S2.out.al (.cells #[.int .i64 (m : Int), .int .i64 0, .int .i64 0, .int .i64 0, .string { data := #[] }, .string { data := #[] }, .string { data := #[] }, .int .i64 0, .int .i64 0, .string { data := #[] }, .int .i64 0, .slice none 0 0, .int .i64 0, .int .u64 0] 33)
  generalize w2.alloc _ = w3 at E4 KW S3 ⊢
  obtain ⟨t3, ht3⟩ : ∃ t3, t3 = w2.heap.size := ⟨_, rfl⟩
  have HT3 : Hid (W0.heap.size ≤ t3) := by show _ ≤ _; rw [ht3]; exact S2.out.gr.size
  rw [← ht3] at E4 ⊢
  have hlt3 : t3 < w3.heap.size := (Array.getElem?_eq_some_iff.1 E4).1
  have HLT3 := Lib.hid hlt3
  clear ht3 c0 hlt3
  have HE4 := Lib.hid E4
  have HS3 := Lib.hid S3
  have hkw := KW.2 m HM.out
  obtain ⟨g0, g1, g2, g3, g4, g5, g6⟩ := HG.out
  rw [g0, g1, g2, g3, g4, g5, g6] at hkw
  obtain ⟨_, k1, k2, k3, k4, k5, k6, k7⟩ := hkw
  have k2' : w3.cell? ⟨0, m * 8 + 1 + 1, none⟩ = some (.bool q1) := k2
  have k3' : w3.cell? ⟨0, m * 8 + 1 + 2, none⟩ = some (.bool q2) := k3
  have k4' : w3.cell? ⟨0, m * 8 + 1 + 3, none⟩ = some (.bool q3) := k4
  have k5' : w3.cell? ⟨0, m * 8 + 1 + 4, none⟩ = some (.bool q4) := k5
  have k6' : w3.cell? ⟨0, m * 8 + 1 + 5, none⟩ = some (.bool q5) := k6
  have k7' : w3.cell? ⟨0, m * 8 + 1 + 6, none⟩ = some (.bool q6) := k7
  have zk := (blk14 E4).1.1
  clear k2 k3 k4 k5 k6 k7 g0 g1 g2 g3 g4 g5 g6 E4 KW S3 S2 HK
  go_upto_region 3 with fail
  clear k1 k2' k3' k4' k5' k6' k7' zk
  have S4 : DS W0 b t3 w3.heap.size #[.bool q0, .bool q1, .bool q2, .bool q3, .bool q4, .bool q5, .bool q6] e0 l0 y0 none 0 0 [] (w3.alloc (.cells #[.bool q0, .bool q1, .bool q2, .bool q3, .bool q4, .bool q5, .bool q6] 62)) :=
    ⟨HS3.out.al _, by rw [Z0.out]; exact block_old HE4.out _, block_new _ _, World.ownsRow_nil _ _ _ _, Nat.lt_of_lt_of_le HBL.out (by rw [HSZ.out]; omega), HT3.out, HLT3.out⟩
  have HS := Lib.hid S4
  generalize w3.alloc _ = wc at HS ⊢
  obtain ⟨t4, ht4⟩ : ∃ t4, t4 = w3.heap.size := ⟨_, rfl⟩
  rw [← ht4] at HS ⊢
  clear ht4 S4
  have HNE : Hid (w.heap.size ≠ b) := by have := HBL.out; show _ ≠ _; omega
  obtain ⟨a0, a1, a2, a3, a4, a5, a6⟩ := blk7 HS.out.h4
  have c0 := (Oc.block_cell (HS.out.gs.blk HE2.out HNE.out)).1
  go_upto_if 14 with (fail)
  go_cut [] from 14 to 19 (fun wx => Hid (DS W0 b t3 t4 #[.bool q0, .bool q1, .bool q2, .bool q3, .bool q4, .bool q5, .bool q6] e1 l1 y1 none 0 0 [] wx))
  case first =>
    cases q0
    · have h9 := F1.out
      rw [if_neg (by simp)] at h9
      cases h9
      go_wp2_with fail
      go_meet
      exact HS.out
    · have h9 := F1.out
      rw [if_pos rfl] at h9
      obtain ⟨v9, hv9⟩ := HS.out.gs.rd
      have hr := byte_rng (er := e0) hv9.2.2.1
      obtain ⟨⟨ea, xa, la⟩, hb⟩ : ∃ a, Oc.byteF e0 l0 = a := ⟨_, rfl⟩
      rw [hb] at h9 hr
      cases h9
      have hwx : IntKind.i64.wrap xa = xa := by have h1 : 0 ≤ xa := hr.1; have h2 : xa < 256 := hr.2; unfold IntKind.wrap; simp [IntKind.bits, IntKind.signed]; omega
      have HBY := Lib.hid hb
      clear hr hv9 hb
      go_wp2_with (go_at_call 72; (with_reducible refine (GS.byte HS.out.gs.base HBY.out).mono ?_); rintro e w5 ⟨rfl, s⟩; have HS5 := Lib.hid (HS.out.rd s); clear s; obtain ⟨⟨x0, x1, x2, x3, x4, x5, x6⟩, x7, x8, x9, x10, x11, x12, x13⟩ := blk14 HS5.out.h3; have hfz := fro14 HS5.out.h3)
      go_meet
      exact HS5.out.put 1 _ (heap_put HS5.out.h3 1 _)
  case rest =>
  have HS := hcut
  clear hcut a0 a1 a2 a3 a4 a5 a6 c0
  obtain ⟨a0, a1, a2, a3, a4, a5, a6⟩ := blk7 HS.out.h4
  have c0 := (Oc.block_cell (HS.out.gs.blk HE2.out HNE.out)).1
  go_upto_if 21 with (fail)
  go_cut [] from 21 to 25 (fun wx => Hid (DS W0 b t3 t4 #[.bool q0, .bool q1, .bool q2, .bool q3, .bool q4, .bool q5, .bool q6] e2 l2 y2 none 0 0 [] wx))
  case first =>
    have h9 := F2.out
    cases q1
    · rw [if_neg (by simp)] at h9
      cases h9
      go_wp2_with fail
      go_meet
      exact HS.out
    · rw [if_pos rfl] at h9
      obtain ⟨⟨ea, xa, la⟩, hb⟩ : ∃ a, cntF 9223372036854775807 e1 l1 = a := ⟨_, rfl⟩
      rw [hb] at h9
      cases h9
      have HBY := Lib.hid hb
      clear hb
      go_wp2_with (go_at_call 73; (with_reducible refine (GS.count HS.out.gs.base 9223372036854775807 (by omega) (by omega) HBY.out).mono ?_); rintro e w5 ⟨rfl, s⟩; have HS5 := Lib.hid (HS.out.rd s); clear s; obtain ⟨⟨x0, x1, x2, x3, x4, x5, x6⟩, x7, x8, x9, x10, x11, x12, x13⟩ := blk14 HS5.out.h3; have hfz := fro14 HS5.out.h3)
      go_meet
      exact HS5.out.put 2 _ (heap_put HS5.out.h3 2 _)
  case rest =>
  have HS := hcut
  clear hcut a0 a1 a2 a3 a4 a5 a6 c0
  obtain ⟨a0, a1, a2, a3, a4, a5, a6⟩ := blk7 HS.out.h4
  have c0 := (Oc.block_cell (HS.out.gs.blk HE2.out HNE.out)).1
  go_upto_if 27 with (fail)
  go_cut [] from 27 to 31 (fun wx => Hid (DS W0 b t3 t4 #[.bool q0, .bool q1, .bool q2, .bool q3, .bool q4, .bool q5, .bool q6] e3 l3 y3 none 0 0 [] wx))
  case first =>
    have h9 := F3.out
    cases q2
    · rw [if_neg (by simp)] at h9
      cases h9
      go_wp2_with fail
      go_meet
      exact HS.out
    · rw [if_pos rfl] at h9
      obtain ⟨⟨ea, xa, la⟩, hb⟩ : ∃ a, trF e2 l2 = a := ⟨_, rfl⟩
      rw [hb] at h9
      cases h9
      have HBY := Lib.hid hb
      clear hb
      go_wp2_with (go_at_call 74; (with_reducible refine (tget_any HS.out.gs.base xa (by rw [HBY.out])).mono ?_); rintro e w5 ⟨rfl, s⟩; rw [HBY.out] at s; have HS5 := Lib.hid (HS.out.rd s); clear s; obtain ⟨⟨x0, x1, x2, x3, x4, x5, x6⟩, x7, x8, x9, x10, x11, x12, x13⟩ := blk14 HS5.out.h3; have hfz := fro14 HS5.out.h3)
      go_meet
      exact HS5.out.putT xa
  case rest =>
  have HS := hcut
  clear hcut a0 a1 a2 a3 a4 a5 a6 c0
  obtain ⟨a0, a1, a2, a3, a4, a5, a6⟩ := blk7 HS.out.h4
  have c0 := (Oc.block_cell (HS.out.gs.blk HE2.out HNE.out)).1
  go_upto_if 33 with (fail)
  go_cut [] from 33 to 37 (fun wx => Hid (DS W0 b t3 t4 #[.bool q0, .bool q1, .bool q2, .bool q3, .bool q4, .bool q5, .bool q6] e4 l4 y4 none 0 0 [] wx))
  case first =>
    have h9 := F4.out
    cases q3
    · rw [if_neg (by simp)] at h9
      cases h9
      go_wp2_with fail
      go_meet
      exact HS.out
    · rw [if_pos rfl] at h9
      obtain ⟨⟨ea, xa, la⟩, hb⟩ : ∃ a, txtF 12 e3 l3 = a := ⟨_, rfl⟩
      rw [hb] at h9
      cases h9
      have HBY := Lib.hid hb
      clear hb
      go_wp2_with (go_at_call 75; (with_reducible refine (GS.text HS.out.gs.base HBY.out).mono ?_); rintro e w5 ⟨rfl, s⟩; have HS5 := Lib.hid (HS.out.rd s); clear s; obtain ⟨⟨x0, x1, x2, x3, x4, x5, x6⟩, x7, x8, x9, x10, x11, x12, x13⟩ := blk14 HS5.out.h3; have hfz := fro14 HS5.out.h3)
      go_meet
      exact HS5.out.put 9 _ (heap_put HS5.out.h3 9 _)
  case rest =>
  have HS := hcut
  clear hcut a0 a1 a2 a3 a4 a5 a6 c0
  obtain ⟨a0, a1, a2, a3, a4, a5, a6⟩ := blk7 HS.out.h4
  have c0 := (Oc.block_cell (HS.out.gs.blk HE2.out HNE.out)).1
  go_upto_if 39 with (fail)
  go_cut [] from 39 to 43 (fun wx => Hid (DS W0 b t3 t4 #[.bool q0, .bool q1, .bool q2, .bool q3, .bool q4, .bool q5, .bool q6] e5 l5 y5 none 0 0 [] wx))
  case first =>
    have h9 := F5.out
    cases q4
    · rw [if_neg (by simp)] at h9
      cases h9
      go_wp2_with fail
      go_meet
      exact HS.out
    · rw [if_pos rfl] at h9
      obtain ⟨⟨ea, xa, la⟩, hb⟩ : ∃ a, numF e4 l4 = a := ⟨_, rfl⟩
      rw [hb] at h9
      cases h9
      have HBY := Lib.hid hb
      clear hb
      go_wp2_with (go_at_call 76; (with_reducible refine (GS.number HS.out.gs.base HBY.out).mono ?_); rintro e w5 ⟨rfl, s⟩; have HS5 := Lib.hid (HS.out.rd s); clear s; obtain ⟨⟨x0, x1, x2, x3, x4, x5, x6⟩, x7, x8, x9, x10, x11, x12, x13⟩ := blk14 HS5.out.h3; have hfz := fro14 HS5.out.h3)
      go_meet
      exact HS5.out.put 10 _ (heap_put HS5.out.h3 10 _)
  case rest =>
  have HS := hcut
  clear hcut a0 a1 a2 a3 a4 a5 a6 c0
  obtain ⟨a0, a1, a2, a3, a4, a5, a6⟩ := blk7 HS.out.h4
  have c0 := (Oc.block_cell (HS.out.gs.blk HE2.out HNE.out)).1
  go_upto_if 45 with (fail)
  go_cut [] from 45 to 48 (fun wx => Hid (∃ A n c, n = rs.length ∧ DS W0 b t3 t4 #[.bool q0, .bool q1, .bool q2, .bool q3, .bool q4, .bool q5, .bool q6] e6 l6 y5 A n c rs wx))
  case first =>
    have h9 := F6.out
    cases q5
    · rw [if_neg (by simp)] at h9
      cases h9
      go_wp2_with fail
      go_meet
      exact ⟨_, _, _, rfl, HS.out⟩
    · rw [if_pos rfl] at h9
      have HBY := Lib.hid h9.symm
      clear h9
      have HT4 : Hid (t4 + 1 ≤ wc.heap.size) := (Array.getElem?_eq_some_iff.1 HS.out.h4).1
      go_wp2_with (go_at_call 77; (with_reducible refine (rows_any HS.out.gs.base _ _ _ HBY.out).mono ?_); rintro e w5 ⟨A5, c5, rfl, s⟩; have HS5 := Lib.hid (HS.out.rd s.gs); have HO := Lib.hid s.own; clear s; obtain ⟨⟨x0, x1, x2, x3, x4, x5, x6⟩, x7, x8, x9, x10, x11, x12, x13⟩ := blk14 HS5.out.h3; have hfz := fro14 HS5.out.h3)
      go_meet
      exact ⟨_, _, _, rfl, HS5.out.putR HO.out HT4.out⟩
  case rest =>
  obtain ⟨A, n, c, hn, hs⟩ := hcut.out
  have HS := Lib.hid hs
  have HN := Lib.hid hn
  clear hcut hs hn a0 a1 a2 a3 a4 a5 a6 c0
  obtain ⟨a0, a1, a2, a3, a4, a5, a6⟩ := blk7 HS.out.h4
  have c0 := (Oc.block_cell (HS.out.gs.blk HE2.out HNE.out)).1
  go_upto_if 50 with (fail)
  go_cut [] from 50 to 54 (fun wx => Hid (∃ x e7 l7, DS W0 b t3 t4 #[.bool q0, .bool q1, .bool q2, .bool q3, .bool q4, .bool q5, .bool q6] e7 l7 x A n c rs wx ∧ ((q6 = false ∧ x = y5 ∧ e7 = e6 ∧ l7 = l6) ∨ (q6 = true ∧ wideOk e6 l6 ∧ e7 = 0 ∧ l7 = (Oc.rg l6).2.2.drop 8 ∧ x = { y5 with hi := Oc.unf (Oc.rg l6).2.1, lo := (Oc.valN 0 ((Oc.rg l6).2.2.take 8) : Int) }) ∨ (q6 = true ∧ ¬ wideOk e6 l6 ∧ ¬ e7 = 0 ∧ x = { y5 with hi := 0, lo := 0 }))))
  case first =>
    cases q6
    · go_wp2_with fail
      go_meet
      exact ⟨y5, e6, l6, HS.out, .inl ⟨by first | rfl | trivial, rfl, rfl, rfl⟩⟩
    · by_cases hw : wideOk e6 l6
      · have HW := Lib.hid hw
        obtain ⟨hv, hhv⟩ : ∃ a, a = Oc.unf (Oc.rg l6).2.1 := ⟨_, rfl⟩
        obtain ⟨lv, hlv⟩ : ∃ a, a = (Oc.valN 0 ((Oc.rg l6).2.2.take 8) : Int) := ⟨_, rfl⟩
        have HV := Lib.hid (And.intro hhv hlv)
        have HCW := Lib.hid (HS.out.gs.base.wide_ok hw)
        rw [← hhv, ← hlv] at HCW
        clear hw hhv hlv
        go_wp2_with (go_at_call 78; (with_reducible refine HCW.out.mono ?_); rintro e w5 ⟨rfl, s⟩; have HS5 := Lib.hid (HS.out.rd s); clear s; obtain ⟨⟨x0, x1, x2, x3, x4, x5, x6⟩, x7, x8, x9, x10, x11, x12, x13⟩ := blk14 HS5.out.h3; have hfz := fro14 HS5.out.h3)
        go_meet
        exact ⟨{ y5 with hi := hv, lo := lv }, 0, _, HS5.out.putW hv lv, .inr (.inl ⟨by first | rfl | trivial, HW.out, rfl, rfl, by rw [HV.out.1, HV.out.2]⟩)⟩
      · have HW := Lib.hid hw
        have HCW := Lib.hid (HS.out.gs.base.wide_no hw)
        clear hw
        go_wp2_with (go_at_call 78; (with_reducible refine HCW.out.mono ?_); rintro e w5 ⟨e9, he9, rfl, s⟩; have HN9 := Lib.hid he9; have HS5 := Lib.hid (HS.out.rd s); clear s he9; obtain ⟨⟨x0, x1, x2, x3, x4, x5, x6⟩, x7, x8, x9, x10, x11, x12, x13⟩ := blk14 HS5.out.h3; have hfz := fro14 HS5.out.h3)
        go_meet
        exact ⟨{ y5 with hi := 0, lo := 0 }, e9, _, HS5.out.putW 0 0, .inr (.inr ⟨by first | rfl | trivial, HW.out, HN9.out, rfl⟩)⟩
  case rest =>
  obtain ⟨x, e7, l7, hs, hd⟩ := hcut.out
  have HS := Lib.hid hs
  have HD := Lib.hid hd
  clear hcut hs hd a0 a1 a2 a3 a4 a5 a6 c0
  obtain ⟨⟨x0, x1, x2, x3, x4, x5, x6⟩, x7, x8, x9, x10, x11, x12, x13⟩ := blk14 HS.out.h3
  have hn2 : w.heap.size + 1 ≠ b := by have := HBL.out; omega
  have hd2 := HS.out.gs.blk HE3.out hn2
  obtain ⟨⟨d0, d1, d2, d3, d4, d5, d6⟩, d7, d8, d9, d10, d11, d12, d13⟩ := blk14 hd2
  have hfz := fro14 hd2
  have HGF := Lib.hid (HSW.out.comp HS.out.gs)
  have HRR := Lib.hid HS.out.own
  have H34 : Hid (w.heap.size + 1 < t4 + 1) := by have h1 := HS.out.ht; have h2 := HS.out.h34; have h3 := HSZ.out; show _ < _; omega
  have HNEW : Hid (∀ a, A = some a → w.heap.size ≤ a.block) := fun a ha => by
    have h1 := (HRR.out.lt a.block (by rw [ha]; rfl)).1
    have h2 := H34.out
    omega
  have hon : ∀ W', On (w.heap.size + 1) wc W' → GS w b e7 l7 W' ∧ RR W' A rs := fun W' h => by
    refine ⟨HGF.out.set (by have := HBL.out; omega) h.hk (Nat.le_succ _) h.hs h.ho h.ht h.hu, ?_⟩
    obtain ⟨A9, c9, h9, h8, _⟩ := RR.of_own (Oc.ownsRow_kept HRR.out (fun g hg => h.hk g (by have := (HRR.out.lt g hg).1; have := H34.out; omega)))
    cases h9
    exact h8
  have HON := Lib.hid hon
  clear hn2 hd2 hon
  go_wp2_with fail
  have hfin := HON.out _ (((((((((((((((On.refl (w.heap.size + 1) wc).set 0 (.int .i64 x.k)).set 1 (.int .i64 x.p)).set 2 (.int .i64 x.d)).set 3 (.int .i64 x.t.n)).set 4 (.string x.t.b)).set 5 (.string x.t.s)).set 6 (.string x.t.i)).set 7 (.int .i64 x.t.q)).set 8 (.int .i64 x.t.p)).set 9 (.string x.n)).set 10 (.int .i64 x.a)).set 11 (.slice A n c)).set 12 (.int .i64 x.hi)).set 13 (.int .u64 x.lo))
  refine bodyPost_ret (v := .agg #[.int .i64 x.k, .int .i64 x.p, .int .i64 x.d, .int .i64 x.t.n, .string x.t.b, .string x.t.s, .string x.t.i, .int .i64 x.t.q, .int .i64 x.t.p, .string x.n, .int .i64 x.a, .slice A n c, .int .i64 x.hi, .int .u64 x.lo]) (by simp [results, Tryd.results47, go_sem, d0, d1, d2, d3, d4, d5, d6, d7, d8, d9, d10, d11, d12, d13]) rfl ⟨A, n, c, x, e7, l7, rfl, HN.out, ⟨hfin.2, HNEW.out⟩, hfin.1, HD.out⟩
end Go.Proofs.YteahloddjekakaaDoor.Nt
