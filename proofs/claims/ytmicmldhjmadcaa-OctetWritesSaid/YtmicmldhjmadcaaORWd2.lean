/-
  The contract of the reader's Wide, out of its closure's; the low word's bytes there and back. Conditions: none.
-/
import Derived.Test.YtmicmldhjmadcaaORWid
namespace Go.Proofs.Ytmicmldhjmadcaa.Oc
open Go.RowKit

/-- The number that bytes make, the highest first, behind acc. -/
def valN : Nat → List Int → Nat
  | acc, [] => acc
  | acc, x :: t => valN (acc * 256 + x.toNat) t
theorem valN_acc (t : List Int) (acc : Nat) : valN acc t = acc * 256 ^ t.length + valN 0 t := by
  induction t generalizing acc with
  | nil => simp [valN]
  | cons x t ih =>
    rw [valN, valN, ih (acc * 256 + x.toNat), ih (0 * 256 + x.toNat), List.length_cons, Nat.pow_succ, Nat.add_mul, Nat.add_mul]
    have : acc * 256 * 256 ^ t.length = acc * (256 ^ t.length * 256) := by rw [Nat.mul_assoc, Nat.mul_comm 256]
    omega
theorem valN_lt {t : List Int} (h : bok t) : valN 0 t < 256 ^ t.length := by
  induction t with
  | nil => simp [valN]
  | cons x t ih =>
    have h1 := ih (fun y hy => h y (by simp [hy]))
    have h2 := h x (by simp)
    rw [valN, valN_acc, List.length_cons, Nat.pow_succ]
    have h3 : (0 * 256 + x.toNat) * 256 ^ t.length ≤ 255 * 256 ^ t.length := Nat.mul_le_mul_right _ (by omega)
    omega
theorem valN_snoc (t : List Int) (x : Int) (acc : Nat) : valN acc (t ++ [x]) = valN acc t * 256 + x.toNat := by
  induction t generalizing acc with
  | nil => rfl
  | cons y t ih => rw [List.cons_append, valN, valN, ih]
theorem wordF_add (k v c : Nat) : wordF k (v + c * 256 ^ k) = wordF k v := by
  induction k generalizing c with
  | zero => rfl
  | succ k ih =>
    have e1 : (v + c * 256 ^ (k + 1)) / 256 ^ k % 256 = v / 256 ^ k % 256 := by
      rw [Nat.pow_succ, show c * (256 ^ k * 256) = c * 256 * 256 ^ k by rw [Nat.mul_comm (256 ^ k), Nat.mul_assoc], Nat.add_mul_div_right _ _ (Nat.pow_pos (by decide))]
      omega
    rw [wordF, wordF, e1, Nat.pow_succ, show c * (256 ^ k * 256) = (c * 256) * 256 ^ k by rw [Nat.mul_comm (256 ^ k), Nat.mul_assoc], ih]
theorem wordF_val {t : List Int} (h : bok t) : wordF t.length (valN 0 t) = t := by
  induction t with
  | nil => rfl
  | cons x t ih =>
    have h1 := ih (fun y hy => h y (by simp [hy]))
    have h2 := h x (by simp)
    have h3 := valN_lt (t := t) (fun y hy => h y (by simp [hy]))
    have hp : 0 < 256 ^ t.length := Nat.pow_pos (by decide)
    rw [valN, valN_acc, List.length_cons, wordF]
    have e1 : ((0 * 256 + x.toNat) * 256 ^ t.length + valN 0 t) / 256 ^ t.length % 256 = x.toNat := by
      rw [Nat.add_comm, Nat.add_mul_div_right _ _ hp, Nat.div_eq_of_lt h3]
      omega
    rw [e1, Nat.add_comm, wordF_add, h1, Int.toNat_of_nonneg h2.1]
theorem valN_word (k v : Nat) : valN 0 (wordF k v) = v % 256 ^ k := by
  induction k with
  | zero => simp [wordF, valN, Nat.mod_one]
  | succ k ih =>
    rw [wordF, valN, valN_acc, wordF_len, ih, Nat.pow_succ, Nat.mod_mul]
    have : (0 * 256 + ((v / 256 ^ k % 256 : Nat) : Int).toNat) * 256 ^ k = 256 ^ k * (v / 256 ^ k % 256) := by
      rw [Int.toNat_natCast, Nat.mul_comm]; simp
    omega
theorem byteF_cons (x : Int) (r : List Int) : byteF 0 (x :: r) = (0, x, r) := rfl
/-- All eight are there. -/
def QG (l0 : List Int) (k : Nat) (er : Int) (l : List Int) (lo : Int) : Prop := er = 0 ∧ k ≤ 8 ∧ l = l0.drop (8 - k) ∧ lo = (valN 0 (l0.take (8 - k)) : Int)
theorem qg_step {l0 : List Int} (h8 : 8 ≤ l0.length) (hb : bok l0) (k : Nat) (er : Int) (l : List Int) (lo : Int) (h : QG l0 (k + 1) er l lo) : QG l0 k (byteF er l).1 (byteF er l).2.2 (stepLo lo (byteF er l).2.1) := by
  obtain ⟨rfl, hk, rfl, rfl⟩ := h
  have hlt : 8 - (k + 1) < l0.length := by omega
  have e1 : l0.drop (8 - (k + 1)) = l0[8 - (k + 1)] :: l0.drop (8 - k) := by
    rw [List.drop_eq_getElem_cons hlt, show 8 - (k + 1) + 1 = 8 - k by omega]
  rw [e1, byteF_cons]
  refine ⟨rfl, by omega, rfl, ?_⟩
  have hx := hb l0[8 - (k + 1)] (List.getElem_mem hlt)
  have e2 : l0.take (8 - k) = l0.take (8 - (k + 1)) ++ [l0[8 - (k + 1)]] := by
    rw [show 8 - k = 8 - (k + 1) + 1 by omega, List.take_succ_eq_append_getElem hlt]
  have h3 := valN_lt (t := l0.take (8 - (k + 1))) (bok_take hb _)
  have h4 : (l0.take (8 - (k + 1))).length ≤ 7 := by rw [List.length_take]; omega
  have h5 : (256 : Nat) ^ (l0.take (8 - (k + 1))).length ≤ 256 ^ 7 := Nat.pow_le_pow_right (by decide) h4
  have e7 : (256 : Nat) ^ 7 = 72057594037927936 := by decide
  rw [e2, valN_snoc]
  unfold stepLo
  simp only [IntKind.wrap_u64]
  omega
/-- Not all are there, or there is a mistake. -/
def QB (k : Nat) (er : Int) (l : List Int) (_ : Int) : Prop := ¬ er = 0 ∨ l.length < k
theorem qb_step (k : Nat) (er : Int) (l : List Int) (lo : Int) (h : QB (k + 1) er l lo) : QB k (byteF er l).1 (byteF er l).2.2 (stepLo lo (byteF er l).2.1) := by
  unfold byteF
  by_cases he : er = 0
  · subst he
    rcases h with h | h
    · exact absurd rfl h
    · cases l with
      | nil => exact .inl (by decide)
      | cons x r => exact .inr (by simp at h ⊢; omega)
  · rw [if_neg he]
    exact .inl he

/-! ### Wide -/
theorem box_wide (w : World) (b : Nat) : ((w.alloc (boxO b)).alloc (wideO 0 0)).heap[w.heap.size]? = some (boxO b) ∧ ((w.alloc (boxO b)).alloc (wideO 0 0)).heap[w.heap.size + 1]? = some (wideO 0 0) ∧ Below w.heap.size w ((w.alloc (boxO b)).alloc (wideO 0 0)) :=
  ⟨block_old (block_new _ _) _, by have := block_new (w.alloc (boxO b)) (wideO 0 0); simpa using this, ((Below.refl _ _).alloc (Nat.le_refl _) _).alloc (by simp) _⟩
set_option maxRecDepth 100000 in
theorem rwide_of (w : World) (b : Nat) (hlt : b < w.heap.size) (Q : Int → Int → Int → List Int → Prop)
    (ha : Calls Try.prog 38 #[.pointer (some ⟨b, 0, none⟩), .func (.func 39) #[] #[.pointer (some ⟨w.heap.size, 0, none⟩)]] ((w.alloc (boxO b)).alloc (wideO 0 0)) fun e w' => ∃ er x y l, Q er x y l ∧ e = .returned (wideV x y) ∧ RdTo b ((w.alloc (boxO b)).alloc (wideO 0 0)) er l w') :
    Calls Try.prog 15 #[.pointer (some ⟨b, 0, none⟩)] w fun e w' => ∃ er x y l, Q er x y l ∧ e = .returned (wideV x y) ∧ RdTo b w er l w' := by
  have hmf := mkfn
  have HA := Lib.hid ha
  have HBW := Lib.hid (box_wide w b)
  clear ha
  unfold boxO wideO wideV at *
  go_enter Try.func15, Try.ntmps15
  go_wp2_with (first
    | (go_at_call 38; refine HA.out.mono ?_; rintro e w1 ⟨er, x, y, l, hq, rfl, v1, h2, hg2⟩
       have hn0 := block_grown HBW.out.2.1 hg2 (by omega)
       obtain ⟨⟨d1, d2⟩, f1, f2⟩ := wide_block hn0
       have HN0 := Lib.hid hn0
       have HV := Lib.hid h2
       have HG := Lib.hid hg2
       have HQ := Lib.hid hq
       clear hn0 h2 hg2 hq))
  have hend : ((w1.setCell ⟨w.heap.size + 1, 0, none⟩ (.int .i64 x)).setCell ⟨w.heap.size + 1, 1, none⟩ (.int .u64 y)).heap[w.heap.size + 1]? = some (wideO x y) := block_set2 (block_set1 HN0.out _) _
  obtain ⟨⟨e1, e2⟩, _⟩ := wide_block hend
  refine bodyPost_ret (v := .agg #[.int .i64 x, .int .u64 y]) (by simp [results, Try.results15, go_sem, e1, e2]) rfl ⟨er, x, y, l, HQ.out, rfl, v1, ?_, ?_⟩
  · exact HV.out.upto (fun k hk => by rw [Below.heap_setCell _ _ _ _ (by show k ≠ w.heap.size + 1; omega), Below.heap_setCell _ _ _ _ (by show k ≠ w.heap.size + 1; omega)])
  · exact grown_set (grown_set (grownBy_trans (grownBy_of_below _ HBW.out.2.2) HG.out) (Nat.le_succ _) _) (Nat.le_succ _) _
set_option maxRecDepth 100000 in
theorem rwide_nil (w : World) : Calls Try.prog 15 #[.pointer none] w fun e w' => e = .returned (wideV 0 0) ∧ Below w.heap.size w w' := by
  have hmf := mkfn
  have HA := Lib.hid (fun f => att_nilWide ((w.alloc (.cells #[.pointer none] 40)).alloc (wideO 0 0)) f)
  have HB : Hid (Below w.heap.size w ((w.alloc (.cells #[.pointer none] 40)).alloc (wideO 0 0))) := ((Below.refl _ _).alloc (Nat.le_refl _) _).alloc (by simp) _
  have HN : Hid (((w.alloc (.cells #[.pointer none] 40)).alloc (wideO 0 0)).heap[w.heap.size + 1]? = some (wideO 0 0)) := by
    have := block_new (w.alloc (.cells #[.pointer none] 40)) (wideO 0 0)
    show _ = _
    simpa using this
  unfold wideO wideV at *
  go_enter Try.func15, Try.ntmps15
  go_wp2_with (first
    | (go_at_call 38; refine (HA.out _).mono ?_; rintro e w1 ⟨rfl, hb1⟩
       have hn0 := block_kept HN.out hb1
       obtain ⟨⟨d1, d2⟩, f1, f2⟩ := wide_block hn0
       have HN0 := Lib.hid hn0
       have HB1 := Lib.hid (HB.out.trans (hb1.mono HB.out.size))
       clear hn0 hb1))
  have hend : ((w1.setCell ⟨w.heap.size + 1, 0, none⟩ (.int .i64 0)).setCell ⟨w.heap.size + 1, 1, none⟩ (.int .u64 0)).heap[w.heap.size + 1]? = some (wideO 0 0) := block_set2 (block_set1 HN0.out _) _
  obtain ⟨⟨e1, e2⟩, _⟩ := wide_block hend
  exact bodyPost_ret (v := .agg #[.int .i64 0, .int .u64 0]) (by simp [results, Try.results15, go_sem, e1, e2]) rfl ⟨rfl, (HB1.out.setCell (p := ⟨w.heap.size + 1, 0, none⟩) (Nat.le_succ _) _).setCell (p := ⟨w.heap.size + 1, 1, none⟩) (Nat.le_succ _) _⟩
theorem rwide_ok (w : World) (b n : Nat) (l r : List Int) (v : Value) (h : RdR w b 0 l v) (hg : rg l = (0, n, r)) (h8 : 8 ≤ r.length) :
    Calls Try.prog 15 #[.pointer (some ⟨b, 0, none⟩)] w fun e w' => e = .returned (wideV (unf n) (valN 0 (r.take 8) : Int)) ∧ RdTo b w 0 (r.drop 8) w' := by
  obtain ⟨hb0, _, hb2⟩ := box_wide w b
  have hl := h.lt
  have hrb : bok r := fun x hx => h.2.2.1 x (by rw [(rg_inv h.2.2.1 hg).2]; exact List.mem_append_right _ hx)
  have h2 := h.below hb2
  have h3 := h2.below (two_wides _).2.2
  have h4 := rd_box h3 (wideO 0 0)
  refine (rwide_of w b hl (fun er x y l' => er = 0 ∧ x = unf n ∧ y = (valN 0 (r.take 8) : Int) ∧ l' = r.drop 8)
    ((att_okWide _ b l (r.drop 8) v (unf n) (valN 0 (r.take 8) : Int) h2 39 _ (enters_of Try.func39 (by kernel_rfl) rfl)
      ((wide1_any _ b w.heap.size (unf n) 0 r (by have := hb2.size; have := (two_wides ((w.alloc (boxO b)).alloc (wideO 0 0))).2.2.size; omega) (block_kept hb0 (two_wides _).2.2) (by omega) (QG r) ⟨rfl, Nat.le_refl _, rfl, rfl⟩ (fun k er l lo _ hq => qg_step h8 hrb k er l lo hq) (rnumber_ok _ b n l r v h4 hg)).mono fun e w' h5 => ?_)).mono fun e w' h5 => ⟨0, _, _, _, ⟨rfl, rfl, rfl, rfl⟩, h5.1, h5.2⟩)).mono fun e w' h5 => ?_
  · obtain ⟨er, l', lo, ⟨rfl, _, rfl, rfl⟩, h6, h7⟩ := h5
    exact ⟨h6, h7⟩
  · obtain ⟨er, x, y, l', ⟨rfl, rfl, rfl, rfl⟩, h6, h7⟩ := h5
    exact ⟨h6, h7⟩
theorem rwide_err (w : World) (b : Nat) (l : List Int) (v : Value) (h : RdR w b 0 l v) (hg : ¬ (rg l).1 = 0 ∨ (rg l).2.2.length < 8) :
    Calls Try.prog 15 #[.pointer (some ⟨b, 0, none⟩)] w fun e w' => ∃ er, ¬ er = 0 ∧ e = .returned (wideV 0 0) ∧ RdTo b w er l w' := by
  obtain ⟨hb0, _, hb2⟩ := box_wide w b
  have hl := h.lt
  have h2 := h.below hb2
  have h3 := h2.below (two_wides _).2.2
  have h4 := rd_box h3 (wideO 0 0)
  have hnum : ∃ hi er0 l0, QB 8 er0 l0 0 ∧ Calls Try.prog 14 #[.pointer (some ⟨b, 0, none⟩)] ((((w.alloc (boxO b)).alloc (wideO 0 0)).alloc (wideO 0 0)).alloc (wideO 0 0) |>.alloc (wideO 0 0)) fun e w' => e = .returned (.int .i64 hi) ∧ RdTo b ((((w.alloc (boxO b)).alloc (wideO 0 0)).alloc (wideO 0 0)).alloc (wideO 0 0) |>.alloc (wideO 0 0)) er0 l0 w' := by
    by_cases h0 : (rg l).1 = 0
    · have h8 : (rg l).2.2.length < 8 := hg.resolve_left (fun hh => hh h0)
      exact ⟨_, 0, (rg l).2.2, .inr h8, rnumber_ok _ b (rg l).2.1 l (rg l).2.2 v h4 (by rw [← h0])⟩
    · exact ⟨0, (rg l).1, l, .inl h0, rnumber_err _ b l v h4 h0⟩
  obtain ⟨hi, er0, l0, hq0, hn⟩ := hnum
  refine (rwide_of w b hl (fun er x y l' => ¬ er = 0 ∧ x = 0 ∧ y = 0 ∧ l' = l)
    ((att_errWide _ b l v h2 39 _ (enters_of Try.func39 (by kernel_rfl) rfl)
      ((wide1_any _ b w.heap.size hi er0 l0 (by have := hb2.size; have := (two_wides ((w.alloc (boxO b)).alloc (wideO 0 0))).2.2.size; omega) (block_kept hb0 (two_wides _).2.2) (by omega) QB hq0 (fun k er l lo _ hq => qb_step k er l lo hq) hn).mono fun e w' h5 => ?_)).mono fun e w' h5 => ?_)).mono fun e w' h5 => ?_
  · obtain ⟨er, l', lo, h6, h7, h8⟩ := h5
    exact ⟨er, hi, lo, l', h6.resolve_right (by omega), h7, h8⟩
  · obtain ⟨er, h6, h7, h8⟩ := h5
    exact ⟨er, 0, 0, l, ⟨h6, rfl, rfl, rfl⟩, h7, h8⟩
  · obtain ⟨er, x, y, l', ⟨h6, rfl, rfl, rfl⟩, h7, h8⟩ := h5
    exact ⟨er, h6, h7, h8⟩
end Go.Proofs.Ytmicmldhjmadcaa.Oc
