/-
  The contract of the program's Encode. Conditions: at most two hundred bytes.
-/
import Derived.Test.YtganokcmcdkdgaaGreatUDe2
namespace Go.Proofs.YtganokcmcdkdgaaGreat.Pi
open Go.RowKit Fr

/-- The bytes of a packet's body. -/
def pkB (k f t n : Int) (x : List Int) : List Int := k :: f :: t :: (Oc.grp n.toNat ++ (if k = 1 then Oc.grp x.length ++ x else []))
theorem pkB_eq (k f t n : Int) (x : List Int) : pkB k f t n x = ((([k] ++ [f]) ++ [t]) ++ Oc.grp n.toNat) ++ (if k = 1 then Oc.grp x.length ++ x else []) := by simp [pkB]
theorem pkB_len (k f t n : Int) (x : List Int) : (pkB k f t n x).length ≤ 23 + x.length := by
  have h1 := (Oc.grp_len n.toNat).1
  have h2 := (Oc.grp_len x.length).1
  unfold pkB
  simp only [List.length_cons, List.length_append]
  split
  · rw [List.length_append]; omega
  · simp; omega
theorem pkB_bok {k f t n : Int} {x : List Int} (hk : 0 ≤ k ∧ k < 256) (hf : 0 ≤ f ∧ f < 256) (ht : 0 ≤ t ∧ t < 256) (hn : n ≤ 1099511627776) (hx : bok x) (hl : x.length ≤ 1000000) : bok (pkB k f t n x) := by
  intro y hy
  unfold pkB at hy
  simp only [List.mem_cons, List.mem_append] at hy
  rcases hy with rfl | rfl | rfl | hy | hy
  · exact hk
  · exact hf
  · exact ht
  · exact Oc.grp_bok (by omega) y hy
  · split at hy
    · rcases List.mem_append.1 hy with h | h
      · exact Oc.grp_bok (by omega) y h
      · exact hx y h
    · cases hy
theorem chk_ok {k f t n : Int} {q : Nat} (h : chkE k f t n q = 0) : (k = 1 ∨ k = 2) ∧ (0 ≤ n ∧ n ≤ 1099511627776) ∧ ¬ (k = 2 ∧ 0 < q) ∧ (0 ≤ f ∧ f < 3) ∧ (0 ≤ t ∧ t < 3) ∧ f ≠ t := by
  unfold chkE at h
  split at h
  · rename_i h1
    unfold partE at h1
    split at h1
    · rename_i h2
      unfold endE at h
      split at h
      · rename_i h3
        exact ⟨h2.1, ⟨h2.2.1, h2.2.2.1⟩, h2.2.2.2, ⟨h3.1, h3.2.1⟩, ⟨h3.2.2.1, h3.2.2.2.1⟩, h3.2.2.2.2⟩
      · cases h
    · cases h1
  · cases h
/-- A writer b beside a block bp. -/
structure EW (w W : World) (bp b : Nat) (o : Obj) (l : List Int) : Prop where
  wr : ∃ v, Oc.WrR W b 0 l v
  bel : Below w.heap.size w W
  blk : W.heap[bp]? = some o
  lt : bp < b
  ge : w.heap.size ≤ b
theorem EW.below {w W W' : World} {bp b : Nat} {o : Obj} {l : List Int} (h : EW w W bp b o l) (hb : Below W.heap.size W W') : EW w W' bp b o l := by
  obtain ⟨v, hv⟩ := h.wr
  exact ⟨⟨v, hv.below hb⟩, h.bel.trans (hb.mono h.bel.size), Tb.block_kept h.blk hb, h.lt, h.ge⟩
theorem EW.to {w W W' : World} {bp b : Nat} {o : Obj} {l l' : List Int} {v : Value} (h : EW w W bp b o l) (hv : Oc.WrR W b 0 l v) (ht : Oc.WrTo b v W 0 l' W') : EW w W' bp b o l' := by
  obtain ⟨v', h1, h2⟩ := ht
  refine ⟨⟨v', h1⟩, h.bel.trans (h2.below hv h.ge), ?_, h.lt, h.ge⟩
  have hb : Below b W W' := h2.below hv (Nat.le_refl _)
  exact (hb.block bp h.lt).trans h.blk
theorem EW.byte {w W : World} {bp b : Nat} {o : Obj} {l : List Int} (h : EW w W bp b o l) (x : Int) (hl : l.length ≤ 1000) : Calls Tryz.prog 17 #[.pointer (some ⟨b, 0, none⟩), .int .u8 x] W fun e w' => e = .returned (.pointer (some ⟨b, 0, none⟩)) ∧ EW w w' bp b o (l ++ [x]) := by
  obtain ⟨v, hv⟩ := h.wr
  refine (Oc.byte_any W b 0 x l v hv (fun _ => by omega)).mono fun e w' h2 => ⟨h2.1, h.to hv ?_⟩
  have := h2.2
  rwa [Oc.addB_no] at this
theorem EW.count {w W : World} {bp b : Nat} {o : Obj} {l : List Int} (h : EW w W bp b o l) (n : Int) (h0 : 0 ≤ n) (hn : n ≤ 1099511627776) (hl : l.length ≤ 1000) : Calls Tryz.prog 18 #[.pointer (some ⟨b, 0, none⟩), .int .i64 n] W fun e w' => e = .returned (.pointer (some ⟨b, 0, none⟩)) ∧ EW w w' bp b o (l ++ Oc.grp n.toNat) := by
  obtain ⟨v, hv⟩ := h.wr
  have hg := (Oc.grp_len n.toNat).1
  have h3 := Oc.count_any W b 0 n.toNat l v hv (by omega) (fun _ => by omega)
  rw [Int.toNat_of_nonneg h0] at h3
  refine h3.mono fun e w' h2 => ⟨h2.1, h.to hv ?_⟩
  have := h2.2
  rwa [Oc.addB_no] at this
theorem EW.text {w W : World} {bp b g : Nat} {o : Obj} {l : List Int} (h : EW w W bp b o l) (s : ByteArray) (hg : W.heap[g]? = some (.cells #[.string s] 9 (0, 0))) (hs : s.size ≤ 1000) (hl : l.length ≤ 1000) : Calls Tryz.prog 19 #[.pointer (some ⟨b, 0, none⟩), .slice (some ⟨g, 0, none⟩) 1 1] W fun e w' => e = .returned (.pointer (some ⟨b, 0, none⟩)) ∧ EW w w' bp b o (l ++ (Oc.grp s.size ++ Oc.sb s)) := by
  obtain ⟨v, hv⟩ := h.wr
  have hg2 := (Oc.grp_len s.size).1
  exact (Oc.text_ok W b g s l v hv hg (by omega)).mono fun e w' h2 => ⟨h2.1, h.to hv h2.2⟩
theorem EW.done {w W : World} {bp b : Nat} {o : Obj} {l : List Int} (h : EW w W bp b o l) (m : Nat) (hm : m = l.length) : Calls Tryz.prog 20 #[.pointer (some ⟨b, 0, none⟩)] W fun e w' => ∃ A c, e = .returned (.tuple #[.slice A m c, .int .i64 0]) ∧ BAt w' (.slice A m c) l ∧ Below W.heap.size W w' := by
  obtain ⟨v, hv⟩ := h.wr
  rw [hm]
  exact (Oc.wdone_any W b 0 l v hv).mono fun e w' ⟨A, c, h1, h2, h3⟩ => ⟨A, c, h1, BAt.of_own h2, h3⟩
def EncR (k f t n : Int) (x : List Int) (q : Nat) (e : Ending) (w' : World) : Prop := ∃ A q' c, e = .returned (.tuple #[.slice A q' c, .int .i64 (chkE k f t n q)]) ∧ q' = (if chkE k f t n q = 0 then (frF (pkB k f t n x)).length else 0) ∧ BAt w' (.slice A q' c) (if chkE k f t n q = 0 then frF (pkB k f t n x) else [])
theorem parts_or (k f t n : Int) (q : Nat) : (if partE k n q = 0 then endE f t else partE k n q) = chkE k f t n q := by
  unfold chkE
  split
  · rfl
  · rename_i h
    unfold partE at h ⊢
    split
    · rename_i h1; rw [if_pos h1] at h; exact absurd rfl h
    · rfl
theorem four5 {w : World} {b : Nat} {x0 x1 x2 x3 x4 : Value} {t : TypeId} (h : w.heap[b]? = some (.cells #[x0, x1, x2, x3, x4] t (0, 0))) :
    (w.cell? ⟨b, 0, none⟩ = some x0 ∧ w.cell? ⟨b, 1, none⟩ = some x1) ∧ (w.cell? ⟨b, 2, none⟩ = some x2 ∧ w.cell? ⟨b, 3, none⟩ = some x3) := by
  obtain ⟨c0, c1, c2, c3, _⟩ := blk5 h
  exact ⟨⟨c0, c1⟩, c2, c3⟩
set_option maxRecDepth 100000 in
set_option maxHeartbeats 8000000 in
theorem encode_any (w : World) (k f t n : Int) (A : Option Addr) (q c : Nat) (x : List Int) (h : BAt w (.slice A q c) x) (hb : bok x) (hq : q ≤ 200) :
    Calls Tryz.prog 6 #[.agg #[.int .i64 k, .int .i64 f, .int .i64 t, .int .i64 n, .slice A q c]] w fun e w' => EncR k f t n x q e w' ∧ Below w.heap.size w w' := by
  have hl := h.len.1
  have hb0 : Below w.heap.size w (w.alloc (.cells #[.int .i64 k, .int .i64 f, .int .i64 t, .int .i64 n, .slice A q c] 25)) := (Below.refl _ w).alloc (Nat.le_refl _) _
  have HE0 := Lib.hid (Tb.block_new w (.cells #[.int .i64 k, .int .i64 f, .int .i64 t, .int .i64 n, .slice A q c] 25))
  have hdr : Below (w.alloc (.cells #[.int .i64 k, .int .i64 f, .int .i64 t, .int .i64 n, .slice A q c] 25)).heap.size (w.alloc (.cells #[.int .i64 k, .int .i64 f, .int .i64 t, .int .i64 n, .slice A q c] 25)) (w.alloc (.cells #[.int .i64 k, .int .i64 f, .int .i64 t, .int .i64 n, .slice A q c] 25)).drew := (Below.refl _ _).drew
  have HB1 := Lib.hid (hb0.trans (hdr.mono hb0.size))
  have HE1 := Lib.hid (Tb.block_kept HE0.out hdr)
  obtain ⟨y0, y1, y2, y3, y4⟩ := blk5 HE1.out
  obtain ⟨z, hz⟩ : ∃ z, z = chkE k f t n q := ⟨_, rfl⟩
  obtain ⟨pp, hpp⟩ : ∃ z, z = partE k n q := ⟨_, rfl⟩
  obtain ⟨ee, hee⟩ : ∃ z, z = endE f t := ⟨_, rfl⟩
  have HP := Lib.hid (parts_any (w.alloc (.cells #[.int .i64 k, .int .i64 f, .int .i64 t, .int .i64 n, .slice A q c] 25)).drew k f t n A q c)
  have HC := Lib.hid (fun W => check_any W f t)
  have HOR : Hid (∀ W : World, Calls Tryz.prog 14 #[.slice (some ⟨W.heap.size, 0, none⟩) 2 2] (W.alloc (.cells #[.int .i64 pp, .int .i64 ee] 28)) fun e w' => e = .returned (.int .i64 z) ∧ w' = W.alloc (.cells #[.int .i64 pp, .int .i64 ee] 28)) := fun W => by
    have := or_two W pp ee
    rw [hpp, hee, parts_or, ← hpp, ← hee, ← hz] at this
    exact this
  rw [← hpp] at HP
  rw [← hee] at HC
  have HZ := Lib.hid hz
  have HX : Hid (BAt w (.slice A q c) x ∧ bok x ∧ q ≤ 200 ∧ x.length = q) := ⟨h, hb, hq, hl⟩
  unfold EncR
  rw [← hz]
  clear h hb hl hb0 hdr hz hpp hee hq
  go_enter Tryz.func6, Tryz.ntmps6
  go_upto_region 1 with fail
  go_region_held3 (fun w' => (w'.cell? ⟨w.heap.size, 0, none⟩ = some (.int .i64 k) ∧ w'.cell? ⟨w.heap.size, 1, none⟩ = some (.int .i64 f)) ∧ (w'.cell? ⟨w.heap.size, 2, none⟩ = some (.int .i64 t) ∧ w'.cell? ⟨w.heap.size, 3, none⟩ = some (.int .i64 n)) ∧ w'.cell? ⟨w.heap.size, 4, none⟩ = some (.slice A q c))
    (first | exact ⟨⟨y0, y1⟩, ⟨y2, y3⟩, y4⟩ | exact ⟨⟨u0, u1⟩, ⟨u2, u3⟩, u4⟩ | exact ⟨⟨v0, v1⟩, ⟨v2, v3⟩, v4⟩ | exact ⟨⟨s0, s1⟩, ⟨s2, s3⟩, s4⟩)
    (first
      | (go_at_call 15; (with_reducible refine HP.out.mono ?_); rintro e w5 ⟨rfl, hb5⟩; have HB5 := Lib.hid (HB1.out.trans (hb5.mono HB1.out.size)); have e5 := Tb.block_kept HE1.out hb5; obtain ⟨u0, u1, u2, u3, u4⟩ := blk5 e5; have HE5 := Lib.hid e5; clear hb5 e5)
      | (go_at_call 16; (with_reducible refine (HC.out _).mono ?_); rintro e w6 ⟨rfl, hb6⟩; have HB6 := Lib.hid (HB5.out.trans (hb6.mono HB5.out.size)); have e6 := Tb.block_kept HE5.out hb6; obtain ⟨v0, v1, v2, v3, v4⟩ := blk5 e6; have e7 := Tb.block_old e6 (.cells #[.int .i64 pp, .int .i64 ee] 28); obtain ⟨s0, s1, s2, s3, s4⟩ := blk5 e7; have HE6 := Lib.hid e7; clear hb6 e6 e7)
      | (go_at_call 14; (with_reducible refine (HOR.out _).mono ?_); rintro e w7 ⟨rfl, rfl⟩))
  all_goals
    have HBW := Lib.hid (HB6.out.trans (((Below.refl _ w6).alloc (Nat.le_refl _) (.cells #[.int .i64 pp, .int .i64 ee] 28)).mono HB6.out.size))
    obtain ⟨we, hwe⟩ : ∃ W, W = w6.alloc (.cells #[.int .i64 pp, .int .i64 ee] 28) := ⟨_, rfl⟩
    rename_i hHeld
    clear hHeld y0 y1 y2 y3 y4 u0 u1 u2 u3 u4 v0 v1 v2 v3 v4 s0 s1 s2 s3 s4
    rw [← hwe] at HE6 HBW ⊢
    clear hwe HB6 HE5 HB5 HE1 HB1 HE0 HOR HC HP
    by_cases hz0 : z = 0
    · have hok := chk_ok (HZ.out.symm.trans hz0)
      subst hz0
      have HOK := Lib.hid hok
      have i1 : IntKind.u8.wrap k = k := by rw [IntKind.wrap_u8]; have := hok.1; omega
      have i2 : IntKind.u8.wrap f = f := by rw [IntKind.wrap_u8]; have := hok.2.2.2.1; omega
      have i3 : IntKind.u8.wrap t = t := by rw [IntKind.wrap_u8]; have := hok.2.2.2.2.1; omega
      clear hok
      obtain ⟨m, hm⟩ : ∃ m, m = (pkB k f t n x).length := ⟨_, rfl⟩
      obtain ⟨m8, hm8⟩ : ∃ m8, m8 = m + 8 := ⟨_, rfl⟩
      have HM : Hid (m = (pkB k f t n x).length ∧ m8 = m + 8 ∧ m8 = (frF (pkB k f t n x)).length ∧ m ≤ 1000) := ⟨hm, hm8, by rw [hm8, frF_len, hm], by have := pkB_len k f t n x; have := HX.out; omega⟩
      have HN : Hid (0 ≤ n ∧ n ≤ 1099511627776) := HOK.out.2.1
      have HPB : Hid (bok (pkB k f t n x)) := pkB_bok (by have := HOK.out.1; omega) (by have := HOK.out.2.2.2.1; omega) (by have := HOK.out.2.2.2.2.1; omega) HN.out.2 HX.out.2.1 (by have := HX.out; omega)
      clear hm hm8
      have HBD : Hid (Below we.heap.size we we.drew) := Lib.hid (Below.refl _ _).drew
      have hEA : EW w (we.alloc (.cells #[.int .i64 0, .slice none 0 0] 48)) w.heap.size we.heap.size (.cells #[.int .i64 k, .int .i64 f, .int .i64 t, .int .i64 n, .slice A q c] 25) [] :=
        ⟨⟨.slice none 0 0, Tb.block_new we _, World.ownsRow_nil _ _ _ _, by simp⟩, HBW.out.trans (((Below.refl _ we).alloc (Nat.le_refl _) _).mono HBW.out.size), Tb.block_old HE6.out _, (Array.getElem?_eq_some_iff.1 HE6.out).1, HBW.out.size⟩
      have HEW0 := Lib.hid (hEA.below (Below.refl _ _).drew)
      have g0 := four5 (Tb.block_kept HE6.out HBD.out)
      have g1 := four5 HEW0.out.blk
      have g6 := four5 hEA.blk
      clear hEA
      have HB1 := Lib.hid (HEW0.out.byte k (by simp))
      go_upto_region 4 with fail
      go_region_held3 (fun w' => (w'.cell? ⟨w.heap.size, 0, none⟩ = some (.int .i64 k) ∧ w'.cell? ⟨w.heap.size, 1, none⟩ = some (.int .i64 f)) ∧ (w'.cell? ⟨w.heap.size, 2, none⟩ = some (.int .i64 t) ∧ w'.cell? ⟨w.heap.size, 3, none⟩ = some (.int .i64 n)))
        (first | exact g0 | exact g1 | exact g2 | exact g3 | exact g4 | exact g5 | exact g6)
        (first
          | (go_at_call 18; (with_reducible refine HB4.out.mono ?_); rintro e a4 ⟨rfl, s4⟩; have HEW4 := Lib.hid s4; have g5 := four5 s4.blk; clear s4)
          | (go_at_call 17; (with_reducible refine HB3.out.mono ?_); rintro e a3 ⟨rfl, s3⟩; have HEW3 := Lib.hid s3; have g4 := four5 s3.blk; have HB4 := Lib.hid (s3.count n HN.out.1 HN.out.2 (by simp)); clear s3)
          | (go_at_call 17; (with_reducible refine HB2.out.mono ?_); rintro e a2 ⟨rfl, s2⟩; have HEW2 := Lib.hid s2; have g3 := four5 s2.blk; have HB3 := Lib.hid (s2.byte t (by simp)); clear s2)
          | (go_at_call 17; (with_reducible refine HB1.out.mono ?_); rintro e a1 ⟨rfl, s1⟩; have HEW1 := Lib.hid s1; have g2 := four5 s1.blk; have HB2 := Lib.hid (s1.byte f (by simp)); clear s1))
      all_goals
        rename_i hHeld
        clear hHeld g0 g1 g2 g3 g4 g5 g6
        obtain ⟨c0, _, _, _, c4⟩ := blk5 HEW4.out.blk
        have hcv := conv_any (HX.out.1.kept HEW4.out.bel) HX.out.2.1
        have hmk : Hid (∀ W A c, BAt W (.slice A m c) (pkB k f t n x) → Calls Tryz.prog 21 #[.slice A m c] W fun e w' => ∃ A' c', e = .returned (.tuple #[.slice A' m8 c', .int .i64 0]) ∧ BAt w' (.slice A' m8 c') (frF (pkB k f t n x)) ∧ Below W.heap.size W w') := fun W A c hW => make_at W A m c m8 _ hW HPB.out (by have := HM.out; omega) HM.out.2.1
        clear HB1 HB2 HB3 HB4 HEW0 HEW1 HEW2 HEW3 HBD HE6 i1 i2 i3
        by_cases hk : k = 1
        · subst hk
          have HLE : Hid (((([] ++ [1]) ++ [f]) ++ [t]) ++ Oc.grp n.toNat ++ (Oc.grp x.length ++ x) = pkB 1 f t n x) := by
            show _ = _; rw [pkB_eq, if_pos rfl]; rfl
          obtain ⟨y, hy⟩ : ∃ y, y = strOf x := ⟨_, rfl⟩
          have HTX : Hid (∀ W, EW w W w.heap.size we.heap.size (.cells #[.int .i64 1, .int .i64 f, .int .i64 t, .int .i64 n, .slice A q c] 25) (((([] ++ [1]) ++ [f]) ++ [t]) ++ Oc.grp n.toNat) → Calls Tryz.prog 19 #[.pointer (some ⟨we.heap.size, 0, none⟩), .slice (some ⟨W.heap.size, 0, none⟩) 1 1] (W.alloc (.cells #[.string y] 9)) fun e w' => e = .returned (.pointer (some ⟨we.heap.size, 0, none⟩)) ∧ EW w w' w.heap.size we.heap.size (.cells #[.int .i64 1, .int .i64 f, .int .i64 t, .int .i64 n, .slice A q c] 25) (pkB 1 f t n x)) := fun W hW => by
            have hsz : y.size = x.length := by rw [hy]; exact strOf_len x
            have hsb : Oc.sb y = x := by rw [hy]; exact sb_strOf HX.out.2.1
            have hal : Below W.heap.size W (W.alloc (.cells #[.string y] 9)) := (Below.refl _ _).alloc (Nat.le_refl _) _
            have h3 := (hW.below hal).text y (Tb.block_new W _) (by have := HX.out; omega) (by have := (Oc.grp_len n.toNat).1; simp; omega)
            rw [hsz, hsb, HLE.out] at h3
            exact h3
          rw [← hy] at hcv
          clear hy
          go_wp2_with (first
            | (go_at_call 21; (with_reducible refine (hmk.out _ _ _ HD1.out).mono ?_); rintro e a7 ⟨A7, c7, rfl, hb7, hbel7⟩; have HD7 := Lib.hid hb7; have HB7 := Lib.hid hbel7; clear hb7 hbel7)
            | (go_at_call 20; (with_reducible refine (HEW5.out.done m HM.out.1).mono ?_); rintro e a6 ⟨A6, c6, rfl, hb6, hbel6⟩; have HD1 := Lib.hid hb6; have HB6 := Lib.hid hbel6; clear hb6 hbel6)
            | (go_at_call 19; (with_reducible refine (HTX.out _ HEW4.out).mono ?_); rintro e a5 ⟨rfl, s5⟩; have HEW5 := Lib.hid s5; clear s5))
          go_ret2
          have hfin := HEW5.out.bel.trans ((HB6.out.trans (HB7.out.mono HB6.out.size)).mono HEW5.out.bel.size)
          exact ⟨⟨A7, m8, c7, rfl, HM.out.2.2.1, HD7.out⟩, hfin⟩
        · have HEW5 : Hid (EW w a4 w.heap.size we.heap.size (.cells #[.int .i64 k, .int .i64 f, .int .i64 t, .int .i64 n, .slice A q c] 25) (pkB k f t n x)) := by
            have := HEW4.out
            rw [show [] ++ [k] ++ [f] ++ [t] ++ Oc.grp n.toNat = pkB k f t n x by rw [pkB_eq, if_neg hk]; simp] at this
            exact this
          clear HEW4 hcv
          have ek : (k == 1) = false := by simpa using hk
          go_wp2_with (first
            | (go_at_call 21; (with_reducible refine (hmk.out _ _ _ HD1.out).mono ?_); rintro e a7 ⟨A7, c7, rfl, hb7, hbel7⟩; have HD7 := Lib.hid hb7; have HB7 := Lib.hid hbel7; clear hb7 hbel7)
            | (go_at_call 20; (with_reducible refine (HEW5.out.done m HM.out.1).mono ?_); rintro e a6 ⟨A6, c6, rfl, hb6, hbel6⟩; have HD1 := Lib.hid hb6; have HB6 := Lib.hid hbel6; clear hb6 hbel6))
          go_ret2
          have hfin := HEW5.out.bel.trans ((HB6.out.trans (HB7.out.mono HB6.out.size)).mono HEW5.out.bel.size)
          exact ⟨⟨A7, m8, c7, rfl, HM.out.2.2.1, HD7.out⟩, hfin⟩
    · clear HX HE6
      go_wp2
      go_ret2
      exact ⟨⟨none, 0, 0, rfl, rfl, BAt.nil _⟩, HBW.out⟩
end Go.Proofs.YtganokcmcdkdgaaGreat.Pi
