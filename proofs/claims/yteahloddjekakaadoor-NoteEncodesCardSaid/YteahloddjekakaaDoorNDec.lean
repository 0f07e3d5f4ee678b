/-
  The contract of Decode. Conditions: the table of kinds lies as the program's text lays it; at most two million bytes.
-/
import Derived.Test.YteahloddjekakaaDoorNMth
import Derived.Test.YteahloddjekakaaDoorNM19
import Derived.Test.YteahloddjekakaaDoorNM5
import Derived.Test.YteahloddjekakaaDoorNM1
namespace Go.Proofs.YteahloddjekakaaDoor.Nt
open Go.RowKit Td

/-! ### What is read is short -/
theorem zT_sm : Sm zT := ⟨Nat.zero_le _, Nat.zero_le _, Nat.zero_le _⟩
theorem trF_sm (er : Int) (l : List Int) : Sm (trF er l).2.1 := by
  unfold trF
  simp only
  split
  · have h1 := txt_size (numF er l).1 (numF er l).2.2
    have h2 := txt_size (txtF 12 (numF er l).1 (numF er l).2.2).1 (txtF 12 (numF er l).1 (numF er l).2.2).2.2
    have h3 := txt_size (txtF 12 (txtF 12 (numF er l).1 (numF er l).2.2).1 (txtF 12 (numF er l).1 (numF er l).2.2).2.2).1 (txtF 12 (txtF 12 (numF er l).1 (numF er l).2.2).1 (txtF 12 (numF er l).1 (numF er l).2.2).2.2).2.2
    exact ⟨Nat.le_trans h1 (by decide), Nat.le_trans h2 (by decide), Nat.le_trans h3 (by decide)⟩
  · exact zT_sm
theorem rowF_sm : ∀ (k : Nat) (er : Int) (l : List Int) (acc : List Rw), SmR acc → SmR (rowF k er l acc).2.1 ∧ (rowF k er l acc).2.1.length = acc.length + k
  | 0, _, _, _, h => ⟨h, rfl⟩
  | k + 1, er, l, acc, h => by
    rw [rowF]
    obtain ⟨h1, h2⟩ := rowF_sm k (numF (txtF 12 er l).1 (txtF 12 er l).2.2).1 (numF (txtF 12 er l).1 (txtF 12 er l).2.2).2.2 (acc ++ [((txtF 12 er l).2.1, (numF (txtF 12 er l).1 (txtF 12 er l).2.2).2.1)]) (fun m hm => by
      rcases List.mem_append.1 hm with hm | hm
      · exact h m hm
      · have hm2 := List.mem_singleton.1 hm
        have := txt_size er l
        rw [hm2]; show (txtF 12 er l).2.1.size ≤ 100000; omega)
    refine ⟨h1, ?_⟩
    rw [h2, List.length_append, List.length_singleton]; omega
theorem six_sm (er : Int) (l : List Int) : SmR (six er l).2.1 ∧ (six er l).2.1.length ≤ 32 := by
  unfold six s6
  split
  · unfold rowsF
    obtain ⟨h1, h2⟩ := rowF_sm (cntF 32 (five er l).1 (five er l).2.1).2.1.toNat (cntF 32 (five er l).1 (five er l).2.1).1 (cntF 32 (five er l).1 (five er l).2.1).2.2 [] (fun m hm => absurd hm List.not_mem_nil)
    refine ⟨h1, ?_⟩
    rw [h2, List.length_nil]
    have := @cnt_rng (five er l).1 (five er l).2.1
    omega
  · exact ⟨fun m hm => absurd hm List.not_mem_nil, Nat.zero_le _⟩
theorem five_sm (er : Int) (l : List Int) : Sm (five er l).2.2.t ∧ (five er l).2.2.n.size ≤ 100000 := by
  have h1 : Sm (s3 (kt (mK er l)) (s2 (kd (mK er l)) (s1 (kp (mK er l)) (s0 er l)))).2.2.t := by
    unfold s3
    split
    · exact trF_sm _ _
    · unfold s2
      split
      · unfold s1
        split <;> exact zT_sm
      · unfold s1
        split <;> exact zT_sm
  have h0 : (s3 (kt (mK er l)) (s2 (kd (mK er l)) (s1 (kp (mK er l)) (s0 er l)))).2.2.n.size ≤ 100000 := by
    unfold s3 s2 s1
    split <;> split <;> split <;> exact Nat.zero_le _
  have h2 : (s4 (kn (mK er l)) (s3 (kt (mK er l)) (s2 (kd (mK er l)) (s1 (kp (mK er l)) (s0 er l))))).2.2.n.size ≤ 100000 := by
    rw [s4]
    split
    · have := txt_size (s3 (kt (mK er l)) (s2 (kd (mK er l)) (s1 (kp (mK er l)) (s0 er l)))).1 (s3 (kt (mK er l)) (s2 (kd (mK er l)) (s1 (kp (mK er l)) (s0 er l)))).2.1
      show (txtF 12 _ _).2.1.size ≤ 100000
      omega
    · exact h0
  have h3 : Sm (s4 (kn (mK er l)) (s3 (kt (mK er l)) (s2 (kd (mK er l)) (s1 (kp (mK er l)) (s0 er l))))).2.2.t := by
    rw [s4]
    split <;> exact h1
  unfold five
  rw [s5]
  split <;> exact ⟨h3, h2⟩
theorem note_sm {er : Int} {l : List Int} {x : Nt} {e7 : Int} {l7 : List Int} (h : NoteR er l x e7 l7) : SmN x (six er l).2.1 := by
  obtain ⟨h1, h2⟩ := five_sm er l
  obtain ⟨h3, h4⟩ := six_sm er l
  rcases h with ⟨_, hx, _⟩ | ⟨_, _, _, _, hx⟩ | ⟨_, _, _, hx⟩
  · rw [hx]; exact ⟨h1, h2, by omega, h3⟩
  · rw [hx]; exact ⟨h1, h2, by omega, h3⟩
  · rw [hx]; exact ⟨h1, h2, by omega, h3⟩
theorem note_det {er e e' : Int} {l r r' : List Int} {x y : Nt} (he : e = 0) (h : NoteR er l x e r) (k : NoteR er l y e' r') : e' = 0 ∧ r' = r ∧ y = x := by
  rcases h with ⟨h0, h1, h2, h3⟩ | ⟨h0, h1, h2, h3, h4⟩ | ⟨_, _, h2, _⟩
  · rcases k with ⟨_, k1, k2, k3⟩ | ⟨k0, _⟩ | ⟨k0, _⟩
    · exact ⟨by rw [k2, ← h2, he], by rw [k3, h3], by rw [k1, h1]⟩
    · rw [h0] at k0; cases k0
    · rw [h0] at k0; cases k0
  · rcases k with ⟨k0, _⟩ | ⟨_, _, k2, k3, k4⟩ | ⟨_, k1, _, _⟩
    · rw [h0] at k0; cases k0
    · exact ⟨k2, by rw [k3, h3], by rw [k4, h4]⟩
    · exact absurd h1 k1
  · exact absurd he h2
theorem On.below {c B : Nat} {w W W' : World} (h : On c W W') (hb : Below B w W) (hc : B ≤ c) : Below B w W' :=
  hb.trans ⟨h.ho, h.ht, h.hu, h.hs, fun k hk => h.hk k (by omega)⟩
theorem blk1 {w : World} {b : Nat} {v : Value} {t : TypeId} (h : w.heap[b]? = some (.cells #[v] t (0, 0))) : w.cell? ⟨b, 0, none⟩ = some v ∧ w.frozen? ⟨b, 0, none⟩ = false := ⟨by simp [World.cell?, h], by simp [World.frozen?, h]⟩
theorem rr_on {c : Nat} {W W' : World} {A : Option Addr} {l : List Rw} (h : RR W A l) (ho : On c W W') (hn : ∀ a, A = some a → a.block ≠ c) : RR W' A l := by
  rcases h with h | ⟨g, o, h1, h2, h3⟩
  · exact .inl h
  · have hg : W'.heap[g]? = W.heap[g]? := ho.hk g (hn _ h1)
    exact .inr ⟨g, o, h1, Nat.lt_of_lt_of_le h2 ho.hs, fun i m hi => ⟨(cell_blk hg _).trans (h3 i m hi).1, (cell_blk hg _).trans (h3 i m hi).2⟩⟩
/-- What Decode tells. -/
def DecR (D : List Int) (e : Ending) (w' : World) : Prop :=
  (∃ er : Int, ¬ er = 0 ∧ e = .returned (.tuple #[.agg #[.int .i64 0, .int .i64 0, .int .i64 0, .int .i64 0, .string { data := #[] }, .string { data := #[] }, .string { data := #[] }, .int .i64 0, .int .i64 0, .string { data := #[] }, .int .i64 0, .slice none 0 0, .int .i64 0, .int .u64 0], .int .i64 er]) ∧ ∀ x, ¬ (NoteR 0 D x 0 [] ∧ chkN x (six 0 D).2.1 = 0)) ∨
  (∃ (A : Option Addr) (n c : Nat) (x : Nt), e = .returned (.tuple #[.agg #[.int .i64 x.k, .int .i64 x.p, .int .i64 x.d, .int .i64 x.t.n, .string x.t.b, .string x.t.s, .string x.t.i, .int .i64 x.t.q, .int .i64 x.t.p, .string x.n, .int .i64 x.a, .slice A n c, .int .i64 x.hi, .int .u64 x.lo], .int .i64 0]) ∧ Hid (n = (six 0 D).2.1.length) ∧ RR w' A (six 0 D).2.1 ∧ NoteR 0 D x 0 [] ∧ chkN x (six 0 D).2.1 = 0)
theorem row2' (w : World) (a b : Int) (t : TypeId) : RowAt (w.alloc (.cells #[.int .i64 a, .int .i64 b] t)) w.heap.size [a, b] := by
  have h := block_new w (.cells #[.int .i64 a, .int .i64 b] t)
  intro j hj
  match j, hj with
  | 0, _ => rw [cell_of_row _ _ 0 _ _ _ h]; rfl
  | 1, _ => rw [cell_of_row _ _ 1 _ _ _ h]; rfl
set_option maxRecDepth 100000 in
set_option maxHeartbeats 16000000 in
theorem decode_any (w : World) (hk : KinC w) (A : Option Addr) (q c : Nat) (D : List Int) (h : Oc.BAt w (.slice A q c) D) (hb : Oc.bok D) (hq : D.length ≤ 2000000) :
    Calls Tryd.prog 18 #[.slice A q c] w fun e w' => DecR D e w' ∧ Below w.heap.size w w' := by
  have hb0 : Below w.heap.size w (w.alloc (.cells #[.int .i64 0, .int .i64 0, .int .i64 0, .int .i64 0, .string { data := #[] }, .string { data := #[] }, .string { data := #[] }, .int .i64 0, .int .i64 0, .string { data := #[] }, .int .i64 0, .slice none 0 0, .int .i64 0, .int .u64 0] 33)) := (Below.refl _ _).alloc (Nat.le_refl _) _
  have HRD := Lib.hid (Oc.read_any _ _ D (h.kept hb0) hb hq)
  have HW := Lib.hid hk
  clear h hk
  go_enter Tryd.func18, Tryd.ntmps18
  go_upto_region 1 with fail
  obtain ⟨W0, hW0⟩ : ∃ W0, W0 = w.alloc (.cells #[.int .i64 0, .int .i64 0, .int .i64 0, .int .i64 0, .string { data := #[] }, .string { data := #[] }, .string { data := #[] }, .int .i64 0, .int .i64 0, .string { data := #[] }, .int .i64 0, .slice none 0 0, .int .i64 0, .int .u64 0] 33) := ⟨_, rfl⟩
  rw [← hW0] at hb0 HRD ⊢
  have E2 : W0.heap[w.heap.size]? = some (.cells #[.int .i64 0, .int .i64 0, .int .i64 0, .int .i64 0, .string { data := #[] }, .string { data := #[] }, .string { data := #[] }, .int .i64 0, .int .i64 0, .string { data := #[] }, .int .i64 0, .slice none 0 0, .int .i64 0, .int .u64 0] 33 (0, 0)) := by rw [hW0]; exact block_new _ _
  have hz0 : W0.heap.size = w.heap.size + 1 := by rw [hW0]; simp
  have HE2 := Lib.hid E2
  have HB0 := Lib.hid hb0
  have HZ0 := Lib.hid hz0
  clear hW0 E2 hb0 hz0
  go_upto_region 2 with (first
    | (go_at_call 46; (with_reducible refine HRD.out.mono ?_); rintro e w1 ⟨b, u, rfl, hbl, hr, hb1⟩; have HR := Lib.hid hr; have HBL := Lib.hid hbl; have HB1 := Lib.hid hb1; clear hr hbl hb1))
  have hkw1 : KinC (w1.alloc (.cells #[.pointer (some ⟨b, 0, none⟩)] 89)) := ((HW.out.below (HB0.out.trans (HB1.out.mono (by have := HZ0.out; omega))) HW.out.1)).alloc _
  have hgs : GS (w1.alloc (.cells #[.pointer (some ⟨b, 0, none⟩)] 89)) b 0 D (w1.alloc (.cells #[.pointer (some ⟨b, 0, none⟩)] 89)) := ⟨⟨u, HR.out.below ((Below.refl _ _).alloc (Nat.le_refl _) _)⟩, Oc.grownBy_refl _ _⟩
  have HN := Lib.hid (note_any _ hkw1 b 0 D hgs (by have := HBL.out; have := HZ0.out; omega))
  have E4 := block_new w1 (.cells #[.pointer (some ⟨b, 0, none⟩)] 89)
  have HE4 := Lib.hid E4
  have HE2b := Lib.hid (block_old (block_kept HE2.out HB1.out) (.cells #[.pointer (some ⟨b, 0, none⟩)] 89))
  have HLT : Hid (b < w1.heap.size ∧ w.heap.size < b ∧ w.heap.size < w1.heap.size) := ⟨HR.out.lt, by have := HBL.out; have := HZ0.out; omega, by have := HB1.out.size; have := HZ0.out; omega⟩
  have HBW : Hid (Below w.heap.size w (w1.alloc (.cells #[.pointer (some ⟨b, 0, none⟩)] 89))) := (HB0.out.trans (HB1.out.mono (by have := HZ0.out; omega))).alloc (by have := HLT.out; omega) _
  have HKW := Lib.hid hkw1
  have c0 := (blk1 E4).1
  have hsz1 : (w1.alloc (.cells #[.pointer (some ⟨b, 0, none⟩)] 89)).heap.size = w1.heap.size + 1 := by simp
  have HSZ1 := Lib.hid hsz1
  clear hkw1 hgs E4 HR HBL HRD HE2 HB1 hsz1
  obtain ⟨W1, hW1⟩ : ∃ W1, W1 = w1.alloc (.cells #[.pointer (some ⟨b, 0, none⟩)] 89) := ⟨_, rfl⟩
  rw [← hW1] at HN HE4 HE2b HBW HKW c0 HSZ1 ⊢
  clear hW1
  go_upto_region 3 with (first
    | (go_at_call 47; (with_reducible refine HN.out.mono ?_); rintro e w3 ⟨A3, n3, c3, x, e7, l7, rfl, hn3, ⟨hr3, hnw⟩, hs3, hd3⟩; have HNW := Lib.hid hnw; have HN3 := Lib.hid hn3; have HR3 := Lib.hid hr3; have HS3 := Lib.hid hs3; have HD3 := Lib.hid hd3; clear hn3 hr3 hs3 hd3 hnw))
  obtain ⟨W4, hW4⟩ : ∃ W4, W4 = w3.alloc (.cells #[.int .i64 x.k, .int .i64 x.p, .int .i64 x.d, .int .i64 x.t.n, .string x.t.b, .string x.t.s, .string x.t.i, .int .i64 x.t.q, .int .i64 x.t.p, .string x.n, .int .i64 x.a, .slice A3 n3 c3, .int .i64 x.hi, .int .u64 x.lo] 33) := ⟨_, rfl⟩
  have E5 : W4.heap[w3.heap.size]? = some (.cells #[.int .i64 x.k, .int .i64 x.p, .int .i64 x.d, .int .i64 x.t.n, .string x.t.b, .string x.t.s, .string x.t.i, .int .i64 x.t.q, .int .i64 x.t.p, .string x.n, .int .i64 x.a, .slice A3 n3 c3, .int .i64 x.hi, .int .u64 x.lo] 33 (0, 0)) := by rw [hW4]; exact block_new _ _
  have hb4 : Below w3.heap.size w3 W4 := by rw [hW4]; exact (Below.refl _ _).alloc (Nat.le_refl _) _
  rw [← hW4]
  clear hW4
  have h13 : w1.heap.size ≠ b := by have := HLT.out; omega
  have h2b : w.heap.size ≠ b := by have := HLT.out; omega
  have E6 := block_kept (HS3.out.blk HE4.out h13) hb4
  have E7 := block_kept (HS3.out.blk HE2b.out h2b) hb4
  have hkw4 : KinC W4 := by
    refine (HKW.out.block HS3.out.gr.size (HS3.out.gr.block 0 HKW.out.1 (fun e => ?_))).kept hb4
    have e2 : b = 0 := (Option.some.inj e).symm
    have := HLT.out
    omega
  have hrd4 : ∃ v, Oc.RdR W4 b e7 l7 v := by
    obtain ⟨v, hv⟩ := HS3.out.rd
    exact ⟨v, hv.below hb4⟩
  have hbw4 : Below w.heap.size w W4 := by
    have h1 : Below w.heap.size W1 w3 := ⟨HS3.out.gr.os, HS3.out.gr.tape, HS3.out.gr.output, HS3.out.gr.size, fun k hk => HS3.out.gr.block k (by have := HBW.out.size; omega) (fun e => by have e2 : b = k := (Option.some.inj e).symm; have := HLT.out; omega)⟩
    exact (HBW.out.trans h1).trans (hb4.mono (by have := h1.size; have := HBW.out.size; omega))
  have HR4 : Hid (RR W4 A3 (six 0 D).2.1) := HR3.out.below hb4
  have HB4 := Lib.hid hbw4
  have HE7 := Lib.hid E7
  have HDN : Hid (∀ p : InW W4, Calls Tryd.prog 48 #[.pointer (some ⟨b, 0, none⟩)] p.val fun e w' => e = .returned (.int .i64 (Oc.doneE e7 l7)) ∧ ∃ q : InW W4, w' = q.val) := fun p => calls_in (by
    obtain ⟨v, hv⟩ := hrd4
    exact (Oc.rdone_any p.val b e7 l7 v (hv.below p.bel)).mono fun e w' ⟨h1, h2⟩ => ⟨h1, by rw [← h2]; exact Below.refl _ _⟩)
  have HSM := Lib.hid (note_sm HD3.out)
  have HC : Hid (∀ p : InW W4, Calls Tryd.prog 10 #[.agg #[.int .i64 x.k, .int .i64 x.p, .int .i64 x.d, .int .i64 x.t.n, .string x.t.b, .string x.t.s, .string x.t.i, .int .i64 x.t.q, .int .i64 x.t.p, .string x.n, .int .i64 x.a, .slice A3 n3 c3, .int .i64 x.hi, .int .u64 x.lo]] p.val fun e w' => e = .returned (.int .i64 (chkN x (six 0 D).2.1)) ∧ ∃ q : InW W4, w' = q.val) := fun p => calls_in (check_any p.val (hkw4.kept p.bel) x A3 n3 c3 (six 0 D).2.1 (HR4.out.below p.bel) HN3.out HSM.out rfl)
  obtain ⟨a0, ha0⟩ : ∃ a, a = Oc.doneE e7 l7 := ⟨_, rfl⟩
  obtain ⟨a1, ha1⟩ : ∃ a, a = chkN x (six 0 D).2.1 := ⟨_, rfl⟩
  rw [← ha0] at HDN
  rw [← ha1] at HC
  obtain ⟨r, hr⟩ : ∃ r, r = orL [a0, a1] := ⟨_, rfl⟩
  have HOR : Hid (r = orL [a0, a1]) := hr
  have HA0 := Lib.hid ha0
  have HA1 := Lib.hid ha1
  have X := blk14 E5
  have x0 : ∀ p : InW W4, p.val.cell? ⟨w3.heap.size, 0, none⟩ = some (.int .i64 x.k) := fun p => p.cell X.1.1
  have x1 : ∀ p : InW W4, p.val.cell? ⟨w3.heap.size, 1, none⟩ = some (.int .i64 x.p) := fun p => p.cell X.1.2.1
  have x2 : ∀ p : InW W4, p.val.cell? ⟨w3.heap.size, 2, none⟩ = some (.int .i64 x.d) := fun p => p.cell X.1.2.2.1
  have x3 : ∀ p : InW W4, p.val.cell? ⟨w3.heap.size, 3, none⟩ = some (.int .i64 x.t.n) := fun p => p.cell X.1.2.2.2.1
  have x4 : ∀ p : InW W4, p.val.cell? ⟨w3.heap.size, 4, none⟩ = some (.string x.t.b) := fun p => p.cell X.1.2.2.2.2.1
  have x5 : ∀ p : InW W4, p.val.cell? ⟨w3.heap.size, 5, none⟩ = some (.string x.t.s) := fun p => p.cell X.1.2.2.2.2.2.1
  have x6 : ∀ p : InW W4, p.val.cell? ⟨w3.heap.size, 6, none⟩ = some (.string x.t.i) := fun p => p.cell X.1.2.2.2.2.2.2
  have x7 : ∀ p : InW W4, p.val.cell? ⟨w3.heap.size, 7, none⟩ = some (.int .i64 x.t.q) := fun p => p.cell X.2.1
  have x8 : ∀ p : InW W4, p.val.cell? ⟨w3.heap.size, 8, none⟩ = some (.int .i64 x.t.p) := fun p => p.cell X.2.2.1
  have x9 : ∀ p : InW W4, p.val.cell? ⟨w3.heap.size, 9, none⟩ = some (.string x.n) := fun p => p.cell X.2.2.2.1
  have x10 : ∀ p : InW W4, p.val.cell? ⟨w3.heap.size, 10, none⟩ = some (.int .i64 x.a) := fun p => p.cell X.2.2.2.2.1
  have x11 : ∀ p : InW W4, p.val.cell? ⟨w3.heap.size, 11, none⟩ = some (.slice A3 n3 c3) := fun p => p.cell X.2.2.2.2.2.1
  have x12 : ∀ p : InW W4, p.val.cell? ⟨w3.heap.size, 12, none⟩ = some (.int .i64 x.hi) := fun p => p.cell X.2.2.2.2.2.2.1
  have x13 : ∀ p : InW W4, p.val.cell? ⟨w3.heap.size, 13, none⟩ = some (.int .u64 x.lo) := fun p => p.cell X.2.2.2.2.2.2.2
  have y0 : ∀ p : InW W4, p.val.cell? ⟨w1.heap.size, 0, none⟩ = some (.pointer (some ⟨b, 0, none⟩)) := fun p => p.cell (blk1 E6).1
  have HE5 := Lib.hid E5
  clear X E5 E6 E7 hb4 hkw4 hrd4 hbw4 h13 h2b HE4 HE2b HN c0 hr ha0 ha1
  refine wp_region_quiet_tail (C := fun w' => ∃ p : InW W4, w' = p.val) 5 (by kernel_rfl) (by kernel_rfl) (by kernel_rfl) ⟨⟨W4.drew, (Below.refl _ _).drew⟩, rfl⟩ ?_
  simp only [List.take_succ_cons, List.take_zero, List.drop_succ_cons, List.drop_zero]
  repeat (go_big_quiet_step ((first | (go_at_call 48; (with_reducible exact HDN.out _)) | (go_at_call 10; (with_reducible exact HC.out _)))))
  refine wpQuiet_nil ?_
  rintro _ ⟨q3, rfl⟩
  obtain ⟨wq, hbq⟩ := q3
  try dsimp only
  clear x0 x1 x2 x3 x4 x5 x6 x7 x8 x9 x10 x11 x12 x13 y0
  have hb5 : Below W4.heap.size W4 (wq.alloc (.cells #[.int .i64 a0, .int .i64 a1] 37)) := hbq.alloc hbq.size _
  have hE7 := block_kept HE7.out hb5
  have hE5 := block_kept HE5.out hb5
  have HQ : Hid (Below w.heap.size w (wq.alloc (.cells #[.int .i64 a0, .int .i64 a1] 37)) ∧ RR (wq.alloc (.cells #[.int .i64 a0, .int .i64 a1] 37)) A3 (six 0 D).2.1) := ⟨HB4.out.trans (hb5.mono HB4.out.size), HR4.out.below hb5⟩
  have HOC := Lib.hid (orE (wq.alloc (.cells #[.int .i64 a0, .int .i64 a1] 37)) wq.heap.size 2 [a0, a1] r (row2' wq a0 a1 37) rfl HOR (by decide))
  obtain ⟨⟨d0, d1, d2, d3, d4, d5, d6⟩, d7, d8, d9, d10, d11, d12, d13⟩ := blk14 hE7
  obtain ⟨⟨x0, x1, x2, x3, x4, x5, x6⟩, x7, x8, x9, x10, x11, x12, x13⟩ := blk14 hE5
  have fz := fro14 hE7
  have HON : Hid (∀ W', On w.heap.size (wq.alloc (.cells #[.int .i64 a0, .int .i64 a1] 37)) W' → Below w.heap.size w W' ∧ RR W' A3 (six 0 D).2.1) := fun W' h => ⟨h.below HQ.out.1 (Nat.le_refl _), rr_on HQ.out.2 h (fun a ha => by have := HNW.out a ha; have h1 := HBW.out.size; have h2 := HLT.out; have h3 := HSZ1.out; omega)⟩
  clear hb5 hE7 hE5 hbq HQ
  by_cases hr0 : r = 0
  · subst hr0
    go_wp2_with (go_at_call 27; (with_reducible refine HOC.out.mono ?_); rintro e w4 ⟨rfl, rfl⟩)
    have hfin := HON.out _ (((((((((((((((On.refl w.heap.size (wq.alloc (.cells #[.int .i64 a0, .int .i64 a1] 37))).set 0 (.int .i64 x.k)).set 1 (.int .i64 x.p)).set 2 (.int .i64 x.d)).set 3 (.int .i64 x.t.n)).set 4 (.string x.t.b)).set 5 (.string x.t.s)).set 6 (.string x.t.i)).set 7 (.int .i64 x.t.q)).set 8 (.int .i64 x.t.p)).set 9 (.string x.n)).set 10 (.int .i64 x.a)).set 11 (.slice A3 n3 c3)).set 12 (.int .i64 x.hi)).set 13 (.int .u64 x.lo))
    have hz : a0 = 0 ∧ a1 = 0 := ⟨orL_zero HOR.out.symm a0 (by simp), orL_zero HOR.out.symm a1 (by simp)⟩
    refine bodyPost_ret (v := .tuple #[.agg #[.int .i64 x.k, .int .i64 x.p, .int .i64 x.d, .int .i64 x.t.n, .string x.t.b, .string x.t.s, .string x.t.i, .int .i64 x.t.q, .int .i64 x.t.p, .string x.n, .int .i64 x.a, .slice A3 n3 c3, .int .i64 x.hi, .int .u64 x.lo], .int .i64 0]) (by simp [results, Tryd.results18, go_sem, d0, d1, d2, d3, d4, d5, d6, d7, d8, d9, d10, d11, d12, d13]) rfl ⟨.inr ⟨A3, n3, c3, x, rfl, HN3, hfin.2, ?_, by rw [← HA1.out]; exact hz.2⟩, hfin.1⟩
    have h0 := HA0.out
    rw [hz.1] at h0
    unfold Oc.doneE at h0
    by_cases he : e7 = 0
    · rw [if_pos he] at h0
      by_cases hl : l7 = []
      · have hd := HD3.out
        rw [he, hl] at hd
        exact hd
      · rw [if_neg hl] at h0; exact absurd h0 (by decide)
    · rw [if_neg he] at h0; exact absurd h0.symm he
  · go_wp2_with (go_at_call 27; (with_reducible refine HOC.out.mono ?_); rintro e w4 ⟨rfl, rfl⟩)
    have hfin := HON.out _ (((((((((((((((On.refl w.heap.size (wq.alloc (.cells #[.int .i64 a0, .int .i64 a1] 37))).set 0 (.int .i64 0)).set 1 (.int .i64 0)).set 2 (.int .i64 0)).set 3 (.int .i64 0)).set 4 (.string { data := #[] })).set 5 (.string { data := #[] })).set 6 (.string { data := #[] })).set 7 (.int .i64 0)).set 8 (.int .i64 0)).set 9 (.string { data := #[] })).set 10 (.int .i64 0)).set 11 (.slice none 0 0)).set 12 (.int .i64 0)).set 13 (.int .u64 0))
    refine bodyPost_ret (v := .tuple #[.agg #[.int .i64 0, .int .i64 0, .int .i64 0, .int .i64 0, .string { data := #[] }, .string { data := #[] }, .string { data := #[] }, .int .i64 0, .int .i64 0, .string { data := #[] }, .int .i64 0, .slice none 0 0, .int .i64 0, .int .u64 0], .int .i64 r]) (by simp [results, Tryd.results18, go_sem, d0, d1, d2, d3, d4, d5, d6, d7, d8, d9, d10, d11, d12, d13]) rfl ⟨.inl ⟨r, hr0, rfl, ?_⟩, hfin.1⟩
    rintro y ⟨hy, hc⟩
    obtain ⟨k1, k2, k3⟩ := note_det rfl hy HD3.out
    refine hr0 ?_
    rw [HOR.out, HA0.out, HA1.out, k1, k2, k3, hc]
    rfl
end Go.Proofs.YteahloddjekakaaDoor.Nt
