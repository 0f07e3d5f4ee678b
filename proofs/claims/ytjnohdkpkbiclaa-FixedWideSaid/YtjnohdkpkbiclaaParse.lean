/-
  The contract of fixed's Parse. Conditions: a string of at most 1000 bytes.
-/
import Derived.Test.YtjnohdkpkbiclaaPlain
namespace Go.Proofs.Ytjnohdkpkbiclaa
open Go.RowKit

/-- The digits of a text, its sign cut off. -/
def negB (bs : List Int) : Bool := bs.head? == some 45
def digsOf (bs : List Int) : List Int := if negB bs then bs.tail else bs
/-- What Parse must tell of the bytes. -/
def ParseSpec (bs : List Int) (h l er : Int) : Prop :=
  ((plainB (digsOf bs) = false ∨ (negB bs = true ∧ digsOf bs = [48])) ∧ er = 3 ∧ h = 0 ∧ l = 0) ∨
  (plainB (digsOf bs) = true ∧ ¬ (negB bs = true ∧ digsOf bs = [48]) ∧ Signed (numOf (digsOf bs)) (negB bs) h l er)

theorem numOf_take_succ (ds : List Int) (k : Nat) (h : k < ds.length) : numOf (ds.take (k + 1)) = numOf (ds.take k) * 10 + (ds.getD k 0 - 48) := by rw [take_succ_of_lt h, numOf_snoc]
theorem numOf_take_le {ds : List Int} (hd : AllDig ds) (k : Nat) : 0 ≤ numOf (ds.take k) ∧ numOf (ds.take k) ≤ numOf ds := by
  have dg : ∀ j, j < ds.length → 48 ≤ ds.getD j 0 := by
    intro j hj
    rw [List.getD_eq_getElem?_getD, List.getElem?_eq_getElem hj]
    exact (hd _ (List.getElem_mem hj)).1
  have nn : ∀ j, 0 ≤ numOf (ds.take j) := by
    intro j
    induction j with
    | zero => simp [numOf]
    | succ j ih =>
      rcases Nat.lt_or_ge j ds.length with h | h
      · rw [numOf_take_succ ds j h]; have := dg j h; omega
      · have e1 : ds.take (j + 1) = ds := List.take_of_length_le (by omega)
        have e2 : ds.take j = ds := List.take_of_length_le h
        rw [e1]; rwa [e2] at ih
  refine ⟨nn k, ?_⟩
  have mono : ∀ j, numOf (ds.take k) ≤ numOf (ds.take (k + j)) := by
    intro j
    induction j with
    | zero => exact Int.le_refl _
    | succ j ih =>
      rcases Nat.lt_or_ge (k + j) ds.length with h | h
      · rw [show k + (j + 1) = (k + j) + 1 by omega, numOf_take_succ ds _ h]
        have := dg _ h
        have := nn (k + j)
        omega
      · have e1 : ds.take (k + (j + 1)) = ds := List.take_of_length_le (by omega)
        have e2 : ds.take (k + j) = ds := List.take_of_length_le h
        rw [e1]; rwa [e2] at ih
  have h := mono ds.length
  have e1 : ds.take (k + ds.length) = ds := List.take_of_length_le (by omega)
  rwa [e1] at h
theorem plain_dig {ds : List Int} (h : plainB ds = true) : AllDig ds := by
  unfold plainB at h
  rw [Bool.and_eq_true] at h
  intro c hc
  have := List.all_eq_true.1 h.1 c hc
  simpa using this

theorem sb_cut (s : ByteArray) : Lib.hasPrefix s.data.toList [45] = negB (sb s) ∧ sb ⟨(Lib.trimPrefix s.data.toList [45]).toArray⟩ = digsOf (sb s) := by
  unfold digsOf negB sb
  cases hl : s.data.toList with
  | nil => simp [Lib.hasPrefix, Lib.trimPrefix]
  | cons a t =>
    by_cases ha : a = 45
    · subst ha
      simp [Lib.hasPrefix, Lib.trimPrefix]
    · have hn : ((a.toNat : Int) == 45) = false := by
        rw [beq_eq_false_iff_ne]
        intro h
        exact ha (UInt8.toNat_inj.1 (by have : a.toNat = 45 := by omega
                                        simpa using this))
      have ha2 : ¬ (45 = a) := fun h => ha h.symm
      have hb : ([45].isPrefixOf (a :: t)) = false := by simp [List.isPrefixOf, ha2]
      simp [Lib.hasPrefix, Lib.trimPrefix, hn, ha2]
      simpa using hb

set_option maxRecDepth 100000 in
set_option maxHeartbeats 2000000 in
theorem parse_any (w : World) (s : ByteArray) (hs : s.size ≤ 1000) :
    Calls Try.prog 33 #[.string s] w fun e w' => ∃ h l er, e = .returned (.tuple #[.agg #[.int .i64 h, .int .u64 l], .int .i64 er]) ∧
      Hid (ParseSpec (sb s) h l er) ∧ Below w.heap.size w w' := by
  obtain ⟨t, ht⟩ : ∃ t : ByteArray, t = ⟨(Lib.trimPrefix s.data.toList [45]).toArray⟩ := ⟨_, rfl⟩
  obtain ⟨ng, hng⟩ : ∃ b : Bool, b = Lib.hasPrefix s.data.toList [45] := ⟨_, rfl⟩
  have hcut := sb_cut s
  rw [← ht, ← hng] at hcut
  obtain ⟨hc1, hc2⟩ := hcut
  have ccut : ∀ w, Calls Try.prog 56 #[.string s, .string { data := #[45] }] w fun e w' => e = .returned (.tuple #[.string t, .bool ng]) ∧ w = w' := by
    intro w
    rw [ht, hng]
    exact (Try.strings_CutPrefix s { data := #[45] } w).mono fun e w' ⟨he, hw⟩ => ⟨he, hw.symm⟩
  have htl : t.size ≤ 1000 := by
    rw [← sb_len, hc2]
    unfold digsOf
    split
    · rw [List.length_tail, sb_len]; omega
    · rw [sb_len]; exact hs
  have CC := Lib.hid ccut
  have HC1 := Lib.hid hc1
  have HC2 := Lib.hid hc2
  clear ccut ht hng hc1 hc2
  have e1 := Lib.hid (block_new w (.cells #[.int .i64 0, .int .u64 0] 38))
  go_enter Try.func33, Try.ntmps33
  go_wp2_with fail
  refine (CC.out _).mono ?_
  rintro e w1 ⟨rfl, rfl⟩
  go_wp2_with fail
  obtain ⟨pl, hpl⟩ : ∃ b, b = plainB (sb t) := ⟨_, rfl⟩
  refine (plain_any _ t htl).mono ?_
  rw [← hpl]
  rintro e w2 ⟨rfl, b2⟩
  have HPL := Lib.hid hpl
  have kR := block_kept e1.out b2
  obtain ⟨r0, r1, rf0, rf1⟩ := blk2 kR
  have KR := Lib.hid kR
  have hs2 : w.heap.size < w2.heap.size := by have := b2.size; simp only [World.size_alloc] at this; omega
  have hb2 : Below w.heap.size w w2 := ((Below.refl _ _).alloc (Nat.le_refl _) _).trans (b2.mono (by simp))
  have HB2 := Lib.hid hb2
  clear hpl kR b2 hb2 e1
  have fin : ∀ W : World, W = (w2.setCell ⟨w.heap.size, 0, none⟩ (.int .i64 0)).setCell ⟨w.heap.size, 1, none⟩ (.int .u64 0) → Below w.heap.size w W := by
    rintro W rfl
    exact below_stored HB2.out (Nat.le_refl _) _ _
  have FIN := Lib.hid fin
  clear fin
  cases pl
  · have spec : Hid (ParseSpec (sb s) 0 0 3) := .inl ⟨.inl (by rw [← HC2.out]; exact HPL.out.symm), rfl, rfl, rfl⟩
    go_wp2_with fail
    refine bodyPost_ret (v := .tuple #[.agg #[.int .i64 0, .int .u64 0], .int .i64 3]) (by simp [results, Try.results33, go_sem, r0, r1]) rfl ⟨_, _, _, rfl, spec, FIN.out _ rfl⟩
  by_cases hz : ng = true ∧ t.toList = [48]
  · obtain ⟨rfl, hz⟩ := hz
    have spec : Hid (ParseSpec (sb s) 0 0 3) := .inl ⟨.inr ⟨HC1.out.symm, by rw [← HC2.out]; exact (sb_eq_48 t).1 hz⟩, rfl, rfl, rfl⟩
    have n48 : (t.toList == [48]) = true := by rw [hz]; rfl
    go_wp2_with fail
    all_goals refine bodyPost_ret (v := .tuple #[.agg #[.int .i64 0, .int .u64 0], .int .i64 3]) (by simp [results, Try.results33, go_sem, r0, r1]) rfl ⟨_, _, _, rfl, spec, FIN.out _ rfl⟩
  have hok : Hid (plainB (digsOf (sb s)) = true ∧ ¬ (negB (sb s) = true ∧ digsOf (sb s) = [48])) := by
    refine ⟨by rw [← HC2.out]; exact HPL.out.symm, ?_⟩
    rw [← HC1.out, ← HC2.out, ← sb_eq_48]
    exact hz
  have hg : (ng && (t.toList == [48])) = false := by
    cases ng
    · rfl
    · simpa using hz
  have hg2 : ng = false ∨ (ng = true ∧ (t.toList == [48]) = false) := by
    cases ng
    · exact .inl rfl
    · exact .inr ⟨rfl, by simpa using hz⟩
  clear hz
  obtain ⟨cv, cw, hcv, hcp⟩ := str_bytes t
  have HCP := Lib.hid hcp
  clear hcp
  rcases hg2 with rfl | ⟨rfl, hn48⟩
  all_goals
    go_wp2_with fail
    obtain ⟨W0, hW0⟩ : ∃ W0, W0 = cw (w2.alloc (.cells #[.int .u64 0, .int .u64 0] 78)) := ⟨_, rfl⟩
    have hcp2 := HCP.out (w2.alloc (.cells #[.int .u64 0, .int .u64 0] 78))
    rw [← hW0, show (w2.alloc (.cells #[.int .u64 0, .int .u64 0] 78)).heap.size = w2.heap.size + 1 by simp] at hcp2
    rw [← hW0]
    obtain ⟨q1, q2, q3⟩ := hcp2
    have j0 : Hid (W0.heap[w2.heap.size]? = some (.cells #[.int .u64 0, .int .u64 0] 78 (0, 0)) ∧ W0.heap[w.heap.size]? = some (.cells #[.int .i64 0, .int .u64 0] 38 (0, 0)) ∧
        (∀ i, i < t.size → W0.cell? ⟨w2.heap.size + 1, i, none⟩ = some (.int .u8 ((sb t).getD i 0))) ∧ Below w.heap.size w W0) :=
      ⟨(q1.block _ (by omega)).trans (block_new _ _), (q1.block _ (by omega)).trans (block_old KR.out _), q3, (HB2.out.alloc (by omega) _).trans (q1.mono (by omega))⟩
    clear q1 q2 q3 hW0 hcv HCP FIN KR r0 r1 rf0 rf1 hg
    go_loopg [29] t.size (fun g si wx => ∃ (k : Nat) (p q : Int), g = t.size - k ∧ k ≤ t.size ∧ si = .int .i64 (k : Int) ∧
        Hid ((wx.heap[w2.heap.size]? = some (.cells #[.int .u64 p, .int .u64 q] 78 (0, 0)) ∧ wx.heap[w.heap.size]? = some (.cells #[.int .i64 0, .int .u64 0] 38 (0, 0)) ∧
        (∀ i, i < t.size → wx.cell? ⟨w2.heap.size + 1, i, none⟩ = some (.int .u8 ((sb t).getD i 0))) ∧ Below w.heap.size w wx) ∧ SOk p q ∧ wv p q = numOf ((digsOf (sb s)).take k)))
    case atStart => exact ⟨0, 0, 0, rfl, Nat.zero_le _, rfl, j0.out, ⟨by decide, by decide, by decide, by decide⟩, by simp [wv, numOf]⟩
    case round =>
      obtain ⟨k, p, q, rfl, hk, rfl, hinv⟩ := hrel
      obtain ⟨n0, n1, nf0, nf1⟩ := blk2 hinv.out.1.1
      obtain ⟨r0, r1, rf0, rf1⟩ := blk2 hinv.out.1.2.1
      have hdl : Hid ((digsOf (sb s)).length = t.size) := by show _ = _; rw [← HC2.out, sb_len]
      by_cases hlt : k < t.size
      · obtain ⟨d, hd⟩ : ∃ d, d = (sb t).getD k 0 := ⟨_, rfl⟩
        have hc := hinv.out.1.2.2.1 k hlt
        rw [← hd] at hc
        have hdr : 48 ≤ d ∧ d ≤ 57 := by
          rw [hd, HC2.out, List.getD_eq_getElem?_getD, List.getElem?_eq_getElem (by rw [hdl.out]; exact hlt)]
          exact plain_dig hok.out.1 _ (List.getElem_mem _)
        obtain ⟨d0, d1⟩ := hdr
        have hstep : Hid (numOf ((digsOf (sb s)).take (k + 1)) = numOf ((digsOf (sb s)).take k) * 10 + (d - 48) ∧ numOf ((digsOf (sb s)).take (k + 1)) ≤ numOf (digsOf (sb s))) := by
          refine ⟨?_, (numOf_take_le (plain_dig hok.out.1) (k + 1)).2⟩
          rw [numOf_take_succ _ _ (by rw [hdl.out]; exact hlt), hd, HC2.out]
        clear hd
        by_cases hbig : 1152921504606846976 ≤ p
        · have spec : Hid (ParseSpec (sb s) 0 0 4) := by
            refine .inr ⟨hok.out.1, hok.out.2, .inr ⟨?_, rfl, rfl, rfl⟩⟩
            obtain ⟨h1, h2⟩ := hstep.out
            obtain ⟨h3, h4, h5, h6⟩ := hinv.out.2.1
            rw [← hinv.out.2.2] at h1
            unfold wv at h1
            cases negB (sb s) <;> simp only [if_true, Bool.false_eq_true, if_false] <;> omega
          have hb := Lib.hid hinv.out.1.2.2.2
          clear hinv
          go_wp2_with fail
          refine bodyPost_ret (v := .tuple #[.agg #[.int .i64 0, .int .u64 0], .int .i64 4]) (by simp [results, Try.results33, go_sem, r0, r1]) rfl ⟨_, _, _, rfl, spec, below_stored hb.out (Nat.le_refl _) _ _⟩
        · go_wp2_with fail
          refine (shift_any _ p q (d - 48) hinv.out.2.1 (by omega) (by omega) (by omega)).mono ?_
          rintro e w3 ⟨p3, q3, rfl, hsh, b3⟩
          have k1 := block_kept hinv.out.1.1 b3
          obtain ⟨m0, m1, mf0, mf1⟩ := blk2 k1
          have hnew : Hid (∀ W, W = (w3.setCell ⟨w2.heap.size, 0, none⟩ (.int .u64 p3)).setCell ⟨w2.heap.size, 1, none⟩ (.int .u64 q3) →
              (W.heap[w2.heap.size]? = some (.cells #[.int .u64 p3, .int .u64 q3] 78 (0, 0)) ∧ W.heap[w.heap.size]? = some (.cells #[.int .i64 0, .int .u64 0] 38 (0, 0)) ∧
              (∀ i, i < t.size → W.cell? ⟨w2.heap.size + 1, i, none⟩ = some (.int .u8 ((sb t).getD i 0))) ∧ Below w.heap.size w W) ∧ SOk p3 q3 ∧ wv p3 q3 = numOf ((digsOf (sb s)).take (k + 1))) := by
            rintro W rfl
            refine ⟨⟨blk_store2 k1 _ _, block_set (block_set (block_kept hinv.out.1.2.1 b3) (p := ⟨w2.heap.size, 0, none⟩) (by show w.heap.size ≠ w2.heap.size; omega) _) (p := ⟨w2.heap.size, 1, none⟩) (by show w.heap.size ≠ w2.heap.size; omega) _, ?_, ?_⟩, hsh.out.1, ?_⟩
            · intro i hi
              rw [World.cell?_setCell_other _ _ _ _ (by intro h; injection h with h; omega), World.cell?_setCell_other _ _ _ _ (by intro h; injection h with h; omega)]
              have h1 := hinv.out.1.2.2.1 i hi
              exact (b3.cell (World.block_lt_of_cell? _ _ h1)).trans h1
            · exact below_stored (hinv.out.1.2.2.2.trans (b3.mono hinv.out.1.2.2.2.size)) (by omega) _ _
            · rw [hsh.out.2, hinv.out.2.2, hstep.out.1]
          clear hinv b3 k1 hsh n0 n1 nf0 nf1
          go_wp2_with fail
          have hn2 := hnew.out _ rfl
          go_roundg (t.size - (k + 1))
          case measure => omega
          case rel => exact ⟨k + 1, p3, q3, rfl, by omega, by go_num, hn2⟩
      · have hks : k = t.size := by omega
        go_wp2_with fail
        refine (signed_any _ p q _ hinv.out.2.1).mono ?_
        rintro e w3 ⟨h, l, er, rfl, hsg, b3⟩
        have k1 := block_kept hinv.out.1.2.1 b3
        obtain ⟨m0, m1, mf0, mf1⟩ := blk2 k1
        have spec : Hid (ParseSpec (sb s) h l er) := by
          refine .inr ⟨hok.out.1, hok.out.2, ?_⟩
          have h1 := hsg.out
          rw [hinv.out.2.2, List.take_of_length_le (by rw [hdl.out]; omega)] at h1
          rw [← HC1.out]; exact h1
        have hb : Hid (Below w.heap.size w w3) := hinv.out.1.2.2.2.trans (b3.mono hinv.out.1.2.2.2.size)
        clear hsg b3 hinv n0 n1 nf0 nf1 r0 r1 rf0 rf1
        go_wp2_with fail
        refine bodyPost_ret (v := .tuple #[.agg #[.int .i64 h, .int .u64 l], .int .i64 er]) (by simp [results, Try.results33, go_sem, m0, m1]) rfl ⟨_, _, _, rfl, spec, below_stored hb.out (Nat.le_refl _) _ _⟩
end Go.Proofs.Ytjnohdkpkbiclaa
