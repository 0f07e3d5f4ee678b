/-
  The contract of the reader's Wide, out of its closure's; the low word's bytes there and back. Conditions: none.
-/
import Derived.Test.YteahloddjekakaaDoorORWid
import Derived.Test.YteahloddjekakaaDoorNM11
import Derived.Test.YteahloddjekakaaDoorNM14
namespace Go.Proofs.YteahloddjekakaaDoor.Oc
open Go.RowKit

/-- The number that bytes make, the highest first, behind acc. -/
def valN : Nat → List Int → Nat
  | acc, [] => acc
  | acc, x :: t => valN (acc * 256 + x.toNat) t
theorem valN_acc (t : List Int) (acc : Nat) : valN acc t = acc * 256 ^ t.length + valN 0 t := by
  induction t generalizing acc with
  | nil => simp [valN]
  | cons x t ih =>
    rw [valN, valN, ih (acc * 256 + x.toNat), ih (0 * 256 + x.toNat), List.length_cons, Nat.pow_succ, Nat.add_mul, Nat.add_mul]
    have : acc * 256 * 256 ^ t.length = acc * (256 ^ t.length * 256) := by rw [Nat.mul_assoc, Nat.mul_comm 256]
    omega
theorem valN_lt {t : List Int} (h : bok t) : valN 0 t < 256 ^ t.length := by
  induction t with
  | nil => simp [valN]
  | cons x t ih =>
    have h1 := ih (fun y hy => h y (by simp [hy]))
    have h2 := h x (by simp)
    rw [valN, valN_acc, List.length_cons, Nat.pow_succ]
    have h3 : (0 * 256 + x.toNat) * 256 ^ t.length ≤ 255 * 256 ^ t.length := Nat.mul_le_mul_right _ (by omega)
    omega
theorem valN_snoc (t : List Int) (x : Int) (acc : Nat) : valN acc (t ++ [x]) = valN acc t * 256 + x.toNat := by
  induction t generalizing acc with
  | nil => rfl
  | cons y t ih => rw [List.cons_append, valN, valN, ih]
theorem wordF_add (k v c : Nat) : wordF k (v + c * 256 ^ k) = wordF k v := by
  induction k generalizing c with
  | zero => rfl
  | succ k ih =>
    have e1 : (v + c * 256 ^ (k + 1)) / 256 ^ k % 256 = v / 256 ^ k % 256 := by
      rw [Nat.pow_succ, show c * (256 ^ k * 256) = c * 256 * 256 ^ k by rw [Nat.mul_comm (256 ^ k), Nat.mul_assoc], Nat.add_mul_div_right _ _ (Nat.pow_pos (by decide))]
      omega
    rw [wordF, wordF, e1, Nat.pow_succ, show c * (256 ^ k * 256) = (c * 256) * 256 ^ k by rw [Nat.mul_comm (256 ^ k), Nat.mul_assoc], ih]
theorem wordF_val {t : List Int} (h : bok t) : wordF t.length (valN 0 t) = t := by
  induction t with
  | nil => rfl
  | cons x t ih =>
    have h1 := ih (fun y hy => h y (by simp [hy]))
    have h2 := h x (by simp)
    have h3 := valN_lt (t := t) (fun y hy => h y (by simp [hy]))
    have hp : 0 < 256 ^ t.length := Nat.pow_pos (by decide)
    rw [valN, valN_acc, List.length_cons, wordF]
    have e1 : ((0 * 256 + x.toNat) * 256 ^ t.length + valN 0 t) / 256 ^ t.length % 256 = x.toNat := by
      rw [Nat.add_comm, Nat.add_mul_div_right _ _ hp, Nat.div_eq_of_lt h3]
      omega
    rw [e1, Nat.add_comm, wordF_add, h1, Int.toNat_of_nonneg h2.1]
theorem valN_word (k v : Nat) : valN 0 (wordF k v) = v % 256 ^ k := by
  induction k with
  | zero => simp [wordF, valN, Nat.mod_one]
  | succ k ih =>
    rw [wordF, valN, valN_acc, wordF_len, ih, Nat.pow_succ, Nat.mod_mul]
    have : (0 * 256 + ((v / 256 ^ k % 256 : Nat) : Int).toNat) * 256 ^ k = 256 ^ k * (v / 256 ^ k % 256) := by
      rw [Int.toNat_natCast, Nat.mul_comm]; simp
    omega
theorem byteF_cons (x : Int) (r : List Int) : byteF 0 (x :: r) = (0, x, r) := rfl
/-- All eight are there. -/
def QG (l0 : List Int) (k : Nat) (er : Int) (l : List Int) (lo : Int) : Prop := er = 0 ∧ k ≤ 8 ∧ l = l0.drop (8 - k) ∧ lo = (valN 0 (l0.take (8 - k)) : Int)
theorem qg_step {l0 : List Int} (h8 : 8 ≤ l0.length) (hb : bok l0) (k : Nat) (er : Int) (l : List Int) (lo : Int) (h : QG l0 (k + 1) er l lo) : QG l0 k (byteF er l).1 (byteF er l).2.2 (stepLo lo (byteF er l).2.1) := by
  obtain ⟨rfl, hk, rfl, rfl⟩ := h
  have hlt : 8 - (k + 1) < l0.length := by omega
  have e1 : l0.drop (8 - (k + 1)) = l0[8 - (k + 1)] :: l0.drop (8 - k) := by
    rw [List.drop_eq_getElem_cons hlt, show 8 - (k + 1) + 1 = 8 - k by omega]
  rw [e1, byteF_cons]
  refine ⟨rfl, by omega, rfl, ?_⟩
  have hx := hb l0[8 - (k + 1)] (List.getElem_mem hlt)
  have e2 : l0.take (8 - k) = l0.take (8 - (k + 1)) ++ [l0[8 - (k + 1)]] := by
    rw [show 8 - k = 8 - (k + 1) + 1 by omega, List.take_succ_eq_append_getElem hlt]
  have h3 := valN_lt (t := l0.take (8 - (k + 1))) (bok_take hb _)
  have h4 : (l0.take (8 - (k + 1))).length ≤ 7 := by rw [List.length_take]; omega
  have h5 : (256 : Nat) ^ (l0.take (8 - (k + 1))).length ≤ 256 ^ 7 := Nat.pow_le_pow_right (by decide) h4
  have e7 : (256 : Nat) ^ 7 = 72057594037927936 := by decide
  rw [e2, valN_snoc]
  unfold stepLo
  simp only [IntKind.wrap_u64]
  omega
/-- Not all are there, or there is a mistake. -/
def QB (k : Nat) (er : Int) (l : List Int) (_ : Int) : Prop := ¬ er = 0 ∨ l.length < k
theorem qb_step (k : Nat) (er : Int) (l : List Int) (lo : Int) (h : QB (k + 1) er l lo) : QB k (byteF er l).1 (byteF er l).2.2 (stepLo lo (byteF er l).2.1) := by
  unfold byteF
  by_cases he : er = 0
  · subst he
    rcases h with h | h
    · exact absurd rfl h
    · cases l with
      | nil => exact .inl (by decide)
      | cons x r => exact .inr (by simp at h ⊢; omega)
  · rw [if_neg he]
    exact .inl he

/-! ### Wide -/
theorem box_wide (w : World) (b : Nat) : ((w.alloc (boxO b)).alloc (wideO 0 0)).heap[w.heap.size]? = some (boxO b) ∧ ((w.alloc (boxO b)).alloc (wideO 0 0)).heap[w.heap.size + 1]? = some (wideO 0 0) ∧ Below w.heap.size w ((w.alloc (boxO b)).alloc (wideO 0 0)) :=
  ⟨block_old (block_new _ _) _, by have := block_new (w.alloc (boxO b)) (wideO 0 0); simpa using this, ((Below.refl _ _).alloc (Nat.le_refl _) _).alloc (by simp) _⟩
set_option maxRecDepth 100000 in
theorem rwide_of (w : World) (b : Nat) (hlt : b < w.heap.size) (Q : Int → Int → Int → List Int → Prop)
    (ha : Calls Tryd.prog 103 #[.pointer (some ⟨b, 0, none⟩), .func (.func 104) #[] #[.pointer (some ⟨w.heap.size, 0, none⟩)]] ((w.alloc (boxO b)).alloc (wideO 0 0)) fun e w' => ∃ er x y l, Q er x y l ∧ e = .returned (wideV x y) ∧ RdTo b ((w.alloc (boxO b)).alloc (wideO 0 0)) er l w') :
    Calls Tryd.prog 78 #[.pointer (some ⟨b, 0, none⟩)] w fun e w' => ∃ er x y l, Q er x y l ∧ e = .returned (wideV x y) ∧ RdTo b w er l w' := by
  have hmf := mkfn
  have HA := Lib.hid ha
  have HBW := Lib.hid (box_wide w b)
  clear ha
  unfold boxO wideO wideV at *
  go_enter Tryd.func78, Tryd.ntmps78
  go_wp2_with (first
    | (go_at_call 103; refine HA.out.mono ?_; rintro e w1 ⟨er, x, y, l, hq, rfl, v1, h2, hg2⟩
       have hn0 := block_grown HBW.out.2.1 hg2 (by omega)
       obtain ⟨⟨d1, d2⟩, f1, f2⟩ := wide_block hn0
       have HN0 := Lib.hid hn0
       have HV := Lib.hid h2
       have HG := Lib.hid hg2
       have HQ := Lib.hid hq
       clear hn0 h2 hg2 hq))
  have hend : ((w1.setCell ⟨w.heap.size + 1, 0, none⟩ (.int .i64 x)).setCell ⟨w.heap.size + 1, 1, none⟩ (.int .u64 y)).heap[w.heap.size + 1]? = some (wideO x y) := block_set2 (block_set1 HN0.out _) _
  obtain ⟨⟨e1, e2⟩, _⟩ := wide_block hend
  refine bodyPost_ret (v := .agg #[.int .i64 x, .int .u64 y]) (by simp [results, Tryd.results78, go_sem, e1, e2]) rfl ⟨er, x, y, l, HQ.out, rfl, v1, ?_, ?_⟩
  · exact HV.out.upto (fun k hk => by rw [Below.heap_setCell _ _ _ _ (by show k ≠ w.heap.size + 1; omega), Below.heap_setCell _ _ _ _ (by show k ≠ w.heap.size + 1; omega)])
  · exact grown_set (grown_set (grownBy_trans (grownBy_of_below _ HBW.out.2.2) HG.out) (Nat.le_succ _) _) (Nat.le_succ _) _
set_option maxRecDepth 100000 in
theorem rwide_nil (w : World) : Calls Tryd.prog 78 #[.pointer none] w fun e w' => e = .returned (wideV 0 0) ∧ Below w.heap.size w w' := by
  have hmf := mkfn
  have HA := Lib.hid (fun f => att_nilWide ((w.alloc (.cells #[.pointer none] 86)).alloc (wideO 0 0)) f)
  have HB : Hid (Below w.heap.size w ((w.alloc (.cells #[.pointer none] 86)).alloc (wideO 0 0))) := ((Below.refl _ _).alloc (Nat.le_refl _) _).alloc (by simp) _
  have HN : Hid (((w.alloc (.cells #[.pointer none] 86)).alloc (wideO 0 0)).heap[w.heap.size + 1]? = some (wideO 0 0)) := by
    have := block_new (w.alloc (.cells #[.pointer none] 86)) (wideO 0 0)
    show _ = _
    simpa using this
  unfold wideO wideV at *
  go_enter Tryd.func78, Tryd.ntmps78
  go_wp2_with (first
    | (go_at_call 103; refine (HA.out _).mono ?_; rintro e w1 ⟨rfl, hb1⟩
       have hn0 := block_kept HN.out hb1
       obtain ⟨⟨d1, d2⟩, f1, f2⟩ := wide_block hn0
       have HN0 := Lib.hid hn0
       have HB1 := Lib.hid (HB.out.trans (hb1.mono HB.out.size))
       clear hn0 hb1))
  have hend : ((w1.setCell ⟨w.heap.size + 1, 0, none⟩ (.int .i64 0)).setCell ⟨w.heap.size + 1, 1, none⟩ (.int .u64 0)).heap[w.heap.size + 1]? = some (wideO 0 0) := block_set2 (block_set1 HN0.out _) _
  obtain ⟨⟨e1, e2⟩, _⟩ := wide_block hend
  exact bodyPost_ret (v := .agg #[.int .i64 0, .int .u64 0]) (by simp [results, Tryd.results78, go_sem, e1, e2]) rfl ⟨rfl, (HB1.out.setCell (p := ⟨w.heap.size + 1, 0, none⟩) (Nat.le_succ _) _).setCell (p := ⟨w.heap.size + 1, 1, none⟩) (Nat.le_succ _) _⟩
theorem rwide_ok (w : World) (b n : Nat) (l r : List Int) (v : Value) (h : RdR w b 0 l v) (hg : rg l = (0, n, r)) (h8 : 8 ≤ r.length) :
    Calls Tryd.prog 78 #[.pointer (some ⟨b, 0, none⟩)] w fun e w' => e = .returned (wideV (unf n) (valN 0 (r.take 8) : Int)) ∧ RdTo b w 0 (r.drop 8) w' := by
  obtain ⟨hb0, _, hb2⟩ := box_wide w b
  have hl := h.lt
  have hrb : bok r := fun x hx => h.2.2.1 x (by rw [(rg_inv h.2.2.1 hg).2]; exact List.mem_append_right _ hx)
  have h2 := h.below hb2
  have h3 := h2.below (two_wides _).2.2
  have h4 := rd_box h3 (wideO 0 0)
  refine (rwide_of w b hl (fun er x y l' => er = 0 ∧ x = unf n ∧ y = (valN 0 (r.take 8) : Int) ∧ l' = r.drop 8)
    ((att_okWide _ b l (r.drop 8) v (unf n) (valN 0 (r.take 8) : Int) h2 104 _ (enters_of Tryd.func104 (by kernel_rfl) rfl)
      ((wide1_any _ b w.heap.size (unf n) 0 r (by have := hb2.size; have := (two_wides ((w.alloc (boxO b)).alloc (wideO 0 0))).2.2.size; omega) (block_kept hb0 (two_wides _).2.2) (by omega) (QG r) ⟨rfl, Nat.le_refl _, rfl, rfl⟩ (fun k er l lo _ hq => qg_step h8 hrb k er l lo hq) (rnumber_ok _ b n l r v h4 hg)).mono fun e w' h5 => ?_)).mono fun e w' h5 => ⟨0, _, _, _, ⟨rfl, rfl, rfl, rfl⟩, h5.1, h5.2⟩)).mono fun e w' h5 => ?_
  · obtain ⟨er, l', lo, ⟨rfl, _, rfl, rfl⟩, h6, h7⟩ := h5
    exact ⟨h6, h7⟩
  · obtain ⟨er, x, y, l', ⟨rfl, rfl, rfl, rfl⟩, h6, h7⟩ := h5
    exact ⟨h6, h7⟩
theorem rwide_err (w : World) (b : Nat) (l : List Int) (v : Value) (h : RdR w b 0 l v) (hg : ¬ (rg l).1 = 0 ∨ (rg l).2.2.length < 8) :
    Calls Tryd.prog 78 #[.pointer (some ⟨b, 0, none⟩)] w fun e w' => ∃ er, ¬ er = 0 ∧ e = .returned (wideV 0 0) ∧ RdTo b w er l w' := by
  obtain ⟨hb0, _, hb2⟩ := box_wide w b
  have hl := h.lt
  have h2 := h.below hb2
  have h3 := h2.below (two_wides _).2.2
  have h4 := rd_box h3 (wideO 0 0)
  have hnum : ∃ hi er0 l0, QB 8 er0 l0 0 ∧ Calls Tryd.prog 76 #[.pointer (some ⟨b, 0, none⟩)] ((((w.alloc (boxO b)).alloc (wideO 0 0)).alloc (wideO 0 0)).alloc (wideO 0 0) |>.alloc (wideO 0 0)) fun e w' => e = .returned (.int .i64 hi) ∧ RdTo b ((((w.alloc (boxO b)).alloc (wideO 0 0)).alloc (wideO 0 0)).alloc (wideO 0 0) |>.alloc (wideO 0 0)) er0 l0 w' := by
    by_cases h0 : (rg l).1 = 0
    · have h8 : (rg l).2.2.length < 8 := hg.resolve_left (fun hh => hh h0)
      exact ⟨_, 0, (rg l).2.2, .inr h8, rnumber_ok _ b (rg l).2.1 l (rg l).2.2 v h4 (by rw [← h0])⟩
    · exact ⟨0, (rg l).1, l, .inl h0, rnumber_err _ b l v h4 h0⟩
  obtain ⟨hi, er0, l0, hq0, hn⟩ := hnum
  refine (rwide_of w b hl (fun er x y l' => ¬ er = 0 ∧ x = 0 ∧ y = 0 ∧ l' = l)
    ((att_errWide _ b l v h2 104 _ (enters_of Tryd.func104 (by kernel_rfl) rfl)
      ((wide1_any _ b w.heap.size hi er0 l0 (by have := hb2.size; have := (two_wides ((w.alloc (boxO b)).alloc (wideO 0 0))).2.2.size; omega) (block_kept hb0 (two_wides _).2.2) (by omega) QB hq0 (fun k er l lo _ hq => qb_step k er l lo hq) hn).mono fun e w' h5 => ?_)).mono fun e w' h5 => ?_)).mono fun e w' h5 => ?_
  · obtain ⟨er, l', lo, h6, h7, h8⟩ := h5
    exact ⟨er, hi, lo, l', h6.resolve_right (by omega), h7, h8⟩
  · obtain ⟨er, h6, h7, h8⟩ := h5
    exact ⟨er, 0, 0, l, ⟨h6, rfl, rfl, rfl⟩, h7, h8⟩
  · obtain ⟨er, x, y, l', ⟨h6, rfl, rfl, rfl⟩, h7, h8⟩ := h5
    exact ⟨er, h6, h7, h8⟩
end Go.Proofs.YteahloddjekakaaDoor.Oc

namespace Go.Proofs.YteahloddjekakaaDoor.Nt
open Go.RowKit Td

/-- Mistake, answer and rest behind a Count. -/
def cntF (most er : Int) (l : List Int) : Int × Int × List Int :=
  if er = 0 then (if (Oc.rg l).1 = 0 then (if ((Oc.rg l).2.1 : Int) ≤ most then (0, ((Oc.rg l).2.1 : Int), (Oc.rg l).2.2) else (Oc.longE (Oc.rg l).2.1, 0, l)) else ((Oc.rg l).1, 0, l)) else (er, 0, l)
def numF (er : Int) (l : List Int) : Int × Int × List Int :=
  if er = 0 then (if (Oc.rg l).1 = 0 then (0, Oc.unf (Oc.rg l).2.1, (Oc.rg l).2.2) else ((Oc.rg l).1, 0, l)) else (er, 0, l)
def txtF (most er : Int) (l : List Int) : Int × ByteArray × List Int :=
  if er = 0 then (if (Oc.rg l).1 = 0 then (if ((Oc.rg l).2.1 : Int) ≤ most then (if (Oc.rg l).2.1 ≤ (Oc.rg l).2.2.length then (0, Oc.strOf ((Oc.rg l).2.2.take (Oc.rg l).2.1), (Oc.rg l).2.2.drop (Oc.rg l).2.1) else (12, ByteArray.empty, l)) else (Oc.longE (Oc.rg l).2.1, ByteArray.empty, l)) else ((Oc.rg l).1, ByteArray.empty, l)) else (er, ByteArray.empty, l)
/-- Is a wide number there? -/
def wideOk (er : Int) (l : List Int) : Prop := er = 0 ∧ (Oc.rg l).1 = 0 ∧ 8 ≤ (Oc.rg l).2.2.length

theorem rg_eq {l : List Int} (h : (Oc.rg l).1 = 0) : Oc.rg l = (0, (Oc.rg l).2.1, (Oc.rg l).2.2) := by rw [← h]
theorem rcount_any (w : World) (b : Nat) (er most : Int) (l : List Int) (v : Value) (h : Oc.RdR w b er l v) (hm0 : -9223372036854775808 ≤ most) (hm : most < 9223372036854775808) :
    Calls Tryd.prog 73 #[.pointer (some ⟨b, 0, none⟩), .int .i64 most] w fun e w' => e = .returned (.int .i64 (cntF most er l).2.1) ∧ Oc.RdTo b w (cntF most er l).1 (cntF most er l).2.2 w' := by
  unfold cntF
  by_cases he : er = 0
  · subst he
    rw [if_pos rfl]
    by_cases h0 : (Oc.rg l).1 = 0
    · rw [if_pos h0]
      by_cases hn : ((Oc.rg l).2.1 : Int) ≤ most
      · rw [if_pos hn]; exact Oc.rcount_ok w b _ most l _ v h (rg_eq h0) hn hm
      · rw [if_neg hn]; exact Oc.rcount_long w b _ most l _ v h (rg_eq h0) hn hm0 hm
    · rw [if_neg h0]; exact Oc.rcount_err w b most l v h h0 hm0 hm
  · rw [if_neg he]; exact Oc.rcount_bad w b er most l v h he
theorem rnumber_all (w : World) (b : Nat) (er : Int) (l : List Int) (v : Value) (h : Oc.RdR w b er l v) :
    Calls Tryd.prog 76 #[.pointer (some ⟨b, 0, none⟩)] w fun e w' => e = .returned (.int .i64 (numF er l).2.1) ∧ Oc.RdTo b w (numF er l).1 (numF er l).2.2 w' := by
  unfold numF
  by_cases he : er = 0
  · subst he
    rw [if_pos rfl]
    by_cases h0 : (Oc.rg l).1 = 0
    · rw [if_pos h0]; exact Oc.rnumber_ok w b _ l _ v h (rg_eq h0)
    · rw [if_neg h0]; exact Oc.rnumber_err w b l v h h0
  · rw [if_neg he]; exact Oc.rnumber_bad w b er l v h he
theorem rtext_bad (w : World) (b : Nat) (er most : Int) (l : List Int) (v : Value) (h : Oc.RdR w b er l v) (he : ¬ er = 0) :
    Calls Tryd.prog 75 #[.pointer (some ⟨b, 0, none⟩), .int .i64 most] w fun e w' => e = .returned (.string ByteArray.empty) ∧ Oc.RdTo b w er l w' := by
  obtain ⟨_, _, hb2⟩ := Oc.two_boxes w b most
  refine Oc.rtext_of w b most _ _ ((Oc.att_badStr _ b er _ (Oc.block_cell2 (h.below hb2).1).1.1 he).mono ?_)
  rintro e w' ⟨rfl, rfl⟩
  exact ⟨rfl, Oc.RdTo.same h hb2⟩
theorem rtext_all (w : World) (b : Nat) (er most : Int) (l : List Int) (v : Value) (h : Oc.RdR w b er l v) (hm0 : -9223372036854775808 ≤ most) (hm : most < 9223372036854775808) :
    Calls Tryd.prog 75 #[.pointer (some ⟨b, 0, none⟩), .int .i64 most] w fun e w' => e = .returned (.string (txtF most er l).2.1) ∧ Oc.RdTo b w (txtF most er l).1 (txtF most er l).2.2 w' := by
  unfold txtF
  by_cases he : er = 0
  · subst he
    rw [if_pos rfl]
    by_cases h0 : (Oc.rg l).1 = 0
    · rw [if_pos h0]
      by_cases hn : ((Oc.rg l).2.1 : Int) ≤ most
      · rw [if_pos hn]
        by_cases hr : (Oc.rg l).2.1 ≤ (Oc.rg l).2.2.length
        · rw [if_pos hr]; exact Oc.rtext_ok w b _ most l _ v h (rg_eq h0) hn hm hr
        · rw [if_neg hr]; exact Oc.rtext_short w b _ most l _ v h (rg_eq h0) hn hm (by omega)
      · rw [if_neg hn]; exact Oc.rtext_err w b most _ l v h (Oc.longE_ne _) (fun W h1 => Oc.rcount_long W b _ most l _ v h1 (rg_eq h0) hn hm0 hm)
    · rw [if_neg h0]; exact Oc.rtext_err w b most _ l v h h0 (fun W h1 => Oc.rcount_err W b most l v h1 h0 hm0 hm)
  · rw [if_neg he]; exact rtext_bad w b er most l v h he
theorem rwide_bad (w : World) (b : Nat) (er : Int) (l : List Int) (v : Value) (h : Oc.RdR w b er l v) (he : ¬ er = 0) :
    Calls Tryd.prog 78 #[.pointer (some ⟨b, 0, none⟩)] w fun e w' => e = .returned (.agg #[.int .i64 0, .int .u64 0]) ∧ Oc.RdTo b w er l w' := by
  obtain ⟨_, _, hb2⟩ := Oc.box_wide w b
  refine (Oc.rwide_of w b h.lt (fun er' x y l' => er' = er ∧ x = 0 ∧ y = 0 ∧ l' = l) ((Oc.att_badWide _ b er l v _ (h.below hb2) he).mono ?_)).mono ?_
  · rintro e w' ⟨rfl, h1⟩
    exact ⟨er, 0, 0, l, ⟨rfl, rfl, rfl, rfl⟩, rfl, h1⟩
  · rintro e w' ⟨er', x, y, l', ⟨rfl, rfl, rfl, rfl⟩, h1, h2⟩
    exact ⟨h1, h2⟩

/-! ### Both ways -/
theorem cnt_fwd (most : Int) (n : Nat) (r : List Int) (hn : n < 9223372036854775808) (h : (n : Int) ≤ most) : cntF most 0 (Oc.grp n ++ r) = (0, (n : Int), r) := by
  unfold cntF
  rw [if_pos rfl, Oc.rg_grp n r (by omega)]
  simp [h]
theorem num_fwd (x : Int) (r : List Int) (hx : I64 x) : numF 0 (nb x ++ r) = (0, x, r) := by
  unfold numF nb
  rw [if_pos rfl, Oc.rg_grp _ r (Oc.fold_lt hx.1 hx.2)]
  simp [Oc.unf_fold]
theorem txt_fwd (most : Int) (s : ByteArray) (r : List Int) (hs : s.size ≤ 100000) (h : (s.size : Int) ≤ most) : txtF most 0 (tx s ++ r) = (0, s, r) := by
  unfold txtF tx
  rw [if_pos rfl, List.append_assoc, Oc.rg_grp _ _ (by omega)]
  have hl : (Oc.sb s).length = s.size := Oc.sb_len s
  show (if (0 : Int) = 0 then (if (s.size : Int) ≤ most then (if s.size ≤ (Oc.sb s ++ r).length then (0, Oc.strOf ((Oc.sb s ++ r).take s.size), (Oc.sb s ++ r).drop s.size) else _) else _) else _) = _
  rw [if_pos rfl, if_pos h, if_pos (by rw [List.length_append, hl]; omega), List.take_left' hl, List.drop_left' hl, Oc.strOf_sb]
theorem cnt_inv {most : Int} {l r : List Int} {y : Int} (hb : Oc.bok l) (h : cntF most 0 l = (0, y, r)) : ∃ n : Nat, y = (n : Int) ∧ l = Oc.grp n ++ r ∧ (n : Int) ≤ most ∧ n < 18446744073709551616 := by
  unfold cntF at h
  rw [if_pos rfl] at h
  by_cases h0 : (Oc.rg l).1 = 0
  · rw [if_pos h0] at h
    by_cases hn : ((Oc.rg l).2.1 : Int) ≤ most
    · rw [if_pos hn] at h
      cases h
      have := Oc.rg_inv hb (rg_eq h0)
      exact ⟨_, rfl, this.2, hn, this.1⟩
    · rw [if_neg hn] at h
      exact absurd (congrArg Prod.fst h) (Oc.longE_ne _)
  · rw [if_neg h0] at h
    exact absurd (congrArg Prod.fst h) h0
theorem num_inv {l r : List Int} {y : Int} (hb : Oc.bok l) (h : numF 0 l = (0, y, r)) : l = nb y ++ r ∧ I64 y := by
  unfold numF at h
  rw [if_pos rfl] at h
  by_cases h0 : (Oc.rg l).1 = 0
  · rw [if_pos h0] at h
    cases h
    have := Oc.rg_inv hb (rg_eq h0)
    exact ⟨by rw [nb, Oc.fold_unf]; exact this.2, Oc.unf_rng this.1⟩
  · rw [if_neg h0] at h
    exact absurd (congrArg Prod.fst h) h0
theorem txt_inv {most : Int} {l r : List Int} {s : ByteArray} (hb : Oc.bok l) (h : txtF most 0 l = (0, s, r)) : l = tx s ++ r ∧ (s.size : Int) ≤ most := by
  unfold txtF at h
  rw [if_pos rfl] at h
  by_cases h0 : (Oc.rg l).1 = 0
  · rw [if_pos h0] at h
    by_cases hn : ((Oc.rg l).2.1 : Int) ≤ most
    · rw [if_pos hn] at h
      by_cases hr : (Oc.rg l).2.1 ≤ (Oc.rg l).2.2.length
      · rw [if_pos hr] at h
        cases h
        have hi := Oc.rg_inv hb (rg_eq h0)
        have hbr : Oc.bok (Oc.rg l).2.2 := fun x hx => hb x (by rw [hi.2]; exact List.mem_append_right _ hx)
        have hsz : (Oc.strOf ((Oc.rg l).2.2.take (Oc.rg l).2.1)).size = (Oc.rg l).2.1 := by rw [Oc.strOf_len, List.length_take]; omega
        refine ⟨?_, by rw [hsz]; exact hn⟩
        rw [tx, hsz, Oc.sb_strOf (fun x hx => hbr x (List.mem_of_mem_take hx)), List.append_assoc, List.take_append_drop]
        exact hi.2
      · rw [if_neg hr] at h
        exact absurd (congrArg Prod.fst h) (by show ¬ (12 : Int) = 0; omega)
    · rw [if_neg hn] at h
      exact absurd (congrArg Prod.fst h) (Oc.longE_ne _)
  · rw [if_neg h0] at h
    exact absurd (congrArg Prod.fst h) h0
/-- A wide number's bytes. -/
def wdB (hi : Int) (lo : Nat) : List Int := nb hi ++ Oc.wordF 8 lo
theorem wide_fwd (hi : Int) (lo : Nat) (r : List Int) (hx : I64 hi) (hl : lo < 18446744073709551616) :
    wideOk 0 (wdB hi lo ++ r) ∧ Oc.unf (Oc.rg (wdB hi lo ++ r)).2.1 = hi ∧ Oc.valN 0 ((Oc.rg (wdB hi lo ++ r)).2.2.take 8) = lo ∧ (Oc.rg (wdB hi lo ++ r)).2.2.drop 8 = r := by
  have hlen : (Oc.wordF 8 lo).length = 8 := Oc.wordF_len 8 lo
  have e : Oc.rg (wdB hi lo ++ r) = (0, Oc.fold hi, Oc.wordF 8 lo ++ r) := by
    rw [wdB, nb, List.append_assoc]
    exact Oc.rg_grp _ _ (Oc.fold_lt hx.1 hx.2)
  refine ⟨⟨rfl, by rw [e], by rw [e]; show 8 ≤ (Oc.wordF 8 lo ++ r).length; rw [List.length_append, hlen]; omega⟩, by rw [e]; exact Oc.unf_fold hi, ?_, by rw [e]; exact List.drop_left' hlen⟩
  rw [e]
  show Oc.valN 0 ((Oc.wordF 8 lo ++ r).take 8) = lo
  rw [List.take_left' hlen, Oc.valN_word]
  exact Nat.mod_eq_of_lt (by rw [show (256 : Nat) ^ 8 = 18446744073709551616 by decide]; exact hl)
theorem wide_inv {l : List Int} (hb : Oc.bok l) (h : wideOk 0 l) : l = wdB (Oc.unf (Oc.rg l).2.1) (Oc.valN 0 ((Oc.rg l).2.2.take 8)) ++ (Oc.rg l).2.2.drop 8 := by
  have hi := Oc.rg_inv hb (rg_eq h.2.1)
  have hbr : Oc.bok ((Oc.rg l).2.2.take 8) := fun x hx => hb x (by rw [hi.2]; exact List.mem_append_right _ (List.mem_of_mem_take hx))
  have h8 : ((Oc.rg l).2.2.take 8).length = 8 := by rw [List.length_take]; have := h.2.2; omega
  have hw := Oc.wordF_val hbr
  rw [h8] at hw
  rw [wdB, hw, nb, Oc.fold_unf, List.append_assoc, List.take_append_drop]
  exact hi.2
end Go.Proofs.YteahloddjekakaaDoor.Nt
