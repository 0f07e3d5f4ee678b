/-
  OctetOnce answers true for all bytes and every number. Conditions: of the bytes the first 30 are read.
-/
import Derived.Test.YtmicmldhjmadcaaOOnc
namespace Go.Proofs.Ytmicmldhjmadcaa.Oc
open Go.RowKit

theorem rg_split {l : List Int} (h : (rg l).1 = 0) : rg l = (0, (rg l).2.1, (rg l).2.2) := by rw [← h]
theorem wcount_new (n : Nat) (h : n < 9223372036854775808) (W : World) (b : Nat) (hw : WrR W b 0 [] (.slice none 0 0)) : Calls Try.prog 20 #[.pointer (some ⟨b, 0, none⟩), .int .i64 (n : Int)] W fun e w' => e = .returned (.pointer (some ⟨b, 0, none⟩)) ∧ WrTo b (.slice none 0 0) W 0 (grp n) w' := by
  have h1 := count_any W b 0 n [] _ hw h (fun _ => by have := (grp_len n).1; simp; omega)
  rw [addB_no] at h1
  exact h1
theorem wnumber_new (n : Int) (h1 : -9223372036854775808 ≤ n) (h2 : n < 9223372036854775808) (W : World) (b : Nat) (hw : WrR W b 0 [] (.slice none 0 0)) : Calls Try.prog 21 #[.pointer (some ⟨b, 0, none⟩), .int .i64 n] W fun e w' => e = .returned (.pointer (some ⟨b, 0, none⟩)) ∧ WrTo b (.slice none 0 0) W 0 (grp (fold n)) w' := by
  have h3 := number_any W b 0 n [] _ hw h1 h2 (fun _ => by have := (grp_len (fold n)).1; simp; omega)
  rw [addB_no] at h3
  exact h3
theorem wwide_new (hi : Int) (lo : Nat) (h1 : -9223372036854775808 ≤ hi) (h2 : hi < 9223372036854775808) (h4 : lo < 18446744073709551616) (W : World) (b : Nat) (hw : WrR W b 0 [] (.slice none 0 0)) : Calls Try.prog 22 #[.pointer (some ⟨b, 0, none⟩), .agg #[.int .i64 hi, .int .u64 (lo : Int)]] W fun e w' => e = .returned (.pointer (some ⟨b, 0, none⟩)) ∧ WrTo b (.slice none 0 0) W 0 (grp (fold hi) ++ wordF 8 lo) w' := by
  have h3 := wide_any W b 0 hi lo [] _ hw h1 h2 h4 (fun _ => by have := (grp_len (fold hi)).1; simp; omega)
  rw [addB_no] at h3
  exact h3
theorem wtext_new (s : ByteArray) (h : s.size ≤ 1000) (W : World) (b : Nat) (hw : WrR W b 0 [] (.slice none 0 0)) : Calls Try.prog 23 #[.pointer (some ⟨b, 0, none⟩), .slice (some ⟨W.heap.size, 0, none⟩) 1 1] (W.alloc (.cells #[.string s] 9)) fun e w' => e = .returned (.pointer (some ⟨b, 0, none⟩)) ∧ WrTo b (.slice none 0 0) (W.alloc (.cells #[.string s] 9)) 0 (grp s.size ++ sb s) w' :=
  text_ok _ b W.heap.size s [] _ (hw.below ((Below.refl _ _).alloc (Nat.le_refl _) _)) (block_new _ _) (by have := (grp_len s.size).1; simp; omega)
theorem doneE_more {r : List Int} (h : ¬ r = []) : ¬ doneE 0 r = 0 := by unfold doneE; rw [if_pos rfl, if_neg h]; decide
theorem doneE_end : doneE 0 [] = 0 := rfl
theorem doneE_err {er : Int} (h : ¬ er = 0) (l : List Int) : ¬ doneE er l = 0 := by rw [doneE_yes h]; exact h

theorem law_once (w : World) (A : Option Addr) (len cap m : Nat) (l : List Int) (kind : Int) (hmin : min (len : Int) 30 = (m : Int)) (hmc : m ≤ cap) (hA : BAt w (.slice A m cap) l) (hb : bok l) (hl : l.length ≤ 30) :
    Calls Try.prog 4 #[.slice A len cap, .int .i64 kind] w fun e w' => e = .returned (.bool true) ∧ Below w.heap.size w w' := by
  have h0 : 0 ≤ IntKind.u64.wrap kind := by rw [IntKind.wrap_u64]; omega
  have hk : (IntKind.u64.wrap kind).tmod 4 = 0 ∨ (IntKind.u64.wrap kind).tmod 4 = 1 ∨ (IntKind.u64.wrap kind).tmod 4 = 2 ∨ (IntKind.u64.wrap kind).tmod 4 = 3 := by
    rw [Int.tmod_eq_emod_of_nonneg h0]; omega
  rcases hk with hk | hk | hk | hk
  · by_cases he : (rg l).1 = 0
    · have hg := rg_split he
      obtain ⟨hn64, hlr⟩ := rg_inv hb hg
      by_cases hn : (rg l).2.1 < 9223372036854775808
      · by_cases hr : (rg l).2.2 = []
        · exact once_cnt_ok w A len cap m l (rg l).2.2 (grp (rg l).2.1) kind 0 _ hk hmin hmc hA hb hl
            (fun W br v h => rcount_ok W br (rg l).2.1 _ l _ v h hg (by omega) (by decide)) (wcount_new _ hn) ⟨by rw [hr]; exact doneE_end, by rw [hr, List.append_nil] at hlr; exact hlr.symm⟩
        · exact once_cnt_bad w A len cap m l (rg l).2.2 (grp (rg l).2.1) kind 0 _ hk hmin hmc hA hb hl
            (fun W br v h => rcount_ok W br (rg l).2.1 _ l _ v h hg (by omega) (by decide)) (wcount_new _ hn) (doneE_more hr)
      · exact once_cnt_bad w A len cap m l l (grp 0) kind (longE (rg l).2.1) ((0 : Nat) : Int) hk hmin hmc hA hb hl
          (fun W br v h => rcount_long W br (rg l).2.1 _ l _ v h hg (by omega) (by decide) (by decide)) (wcount_new 0 (by decide)) (doneE_err (longE_ne _) _)
    · exact once_cnt_bad w A len cap m l l (grp 0) kind (rg l).1 ((0 : Nat) : Int) hk hmin hmc hA hb hl
        (fun W br v h => rcount_err W br _ l v h he (by decide) (by decide)) (wcount_new 0 (by decide)) (doneE_err he _)
  · by_cases he : (rg l).1 = 0
    · have hg := rg_split he
      obtain ⟨hn64, hlr⟩ := rg_inv hb hg
      obtain ⟨u1, u2⟩ := unf_rng hn64
      by_cases hr : (rg l).2.2 = []
      · exact once_num_ok w A len cap m l (rg l).2.2 (grp (fold (unf (rg l).2.1))) kind 0 _ hk hmin hmc hA hb hl
          (fun W br v h => rnumber_ok W br (rg l).2.1 l _ v h hg) (wnumber_new _ u1 u2) ⟨by rw [hr]; exact doneE_end, by rw [hr, List.append_nil] at hlr; rw [fold_unf]; exact hlr.symm⟩
      · exact once_num_bad w A len cap m l (rg l).2.2 (grp (fold (unf (rg l).2.1))) kind 0 _ hk hmin hmc hA hb hl
          (fun W br v h => rnumber_ok W br (rg l).2.1 l _ v h hg) (wnumber_new _ u1 u2) (doneE_more hr)
    · exact once_num_bad w A len cap m l l (grp (fold 0)) kind (rg l).1 0 hk hmin hmc hA hb hl
        (fun W br v h => rnumber_err W br l v h he) (wnumber_new 0 (by decide) (by decide)) (doneE_err he _)
  · by_cases he : (rg l).1 = 0 ∧ 8 ≤ (rg l).2.2.length
    · have hg := rg_split he.1
      obtain ⟨hn64, hlr⟩ := rg_inv hb hg
      obtain ⟨u1, u2⟩ := unf_rng hn64
      have hrb : bok (rg l).2.2 := fun x hx => hb x (by rw [hlr]; exact List.mem_append_right _ hx)
      have ht8 : ((rg l).2.2.take 8).length = 8 := by rw [List.length_take]; omega
      have hv := valN_lt (t := (rg l).2.2.take 8) (bok_take hrb 8)
      rw [ht8] at hv
      have e8 : (256 : Nat) ^ 8 = 18446744073709551616 := by decide
      rw [e8] at hv
      have hw := wordF_val (t := (rg l).2.2.take 8) (bok_take hrb 8)
      rw [ht8] at hw
      by_cases hr : (rg l).2.2.drop 8 = []
      · exact once_wid_ok w A len cap m l ((rg l).2.2.drop 8) _ kind 0 _ _ hk hmin hmc hA hb hl
          (fun W br v h => rwide_ok W br (rg l).2.1 l _ v h hg he.2) (wwide_new _ _ u1 u2 hv) ⟨by rw [hr]; exact doneE_end, by
            rw [fold_unf, hw]
            conv => rhs; rw [hlr]
            congr 1
            have := List.take_append_drop 8 (rg l).2.2
            rw [hr, List.append_nil] at this
            exact this⟩
      · exact once_wid_bad w A len cap m l ((rg l).2.2.drop 8) _ kind 0 _ _ hk hmin hmc hA hb hl
          (fun W br v h => rwide_ok W br (rg l).2.1 l _ v h hg he.2) (wwide_new _ _ u1 u2 hv) (doneE_more hr)
    · have hbad : ¬ (rg l).1 = 0 ∨ (rg l).2.2.length < 8 := by
        by_cases h1 : (rg l).1 = 0
        · exact .inr (by have : ¬ 8 ≤ (rg l).2.2.length := fun h2 => he ⟨h1, h2⟩; omega)
        · exact .inl h1
      exact once_wid_err w A len cap m l l _ kind 0 ((0 : Nat) : Int) hk hmin hmc hA hb hl
        (fun W br v h => rwide_err W br l v h hbad) (wwide_new 0 0 (by decide) (by decide) (by decide))
  · by_cases he : (rg l).1 = 0
    · have hg := rg_split he
      obtain ⟨hn64, hlr⟩ := rg_inv hb hg
      by_cases hn : (((rg l).2.1 : Nat) : Int) ≤ 100
      · by_cases hlen : (rg l).2.1 ≤ (rg l).2.2.length
        · have hrb : bok (rg l).2.2 := fun x hx => hb x (by rw [hlr]; exact List.mem_append_right _ hx)
          have hsz : (strOf ((rg l).2.2.take (rg l).2.1)).size = (rg l).2.1 := by rw [strOf_len, List.length_take]; omega
          by_cases hr : (rg l).2.2.drop (rg l).2.1 = []
          · exact once_txt_ok w A len cap m l ((rg l).2.2.drop (rg l).2.1) _ kind 0 _ hk hmin hmc hA hb hl
              (fun W br v h => rtext_ok W br (rg l).2.1 100 l _ v h hg hn (by decide) hlen) (wtext_new _ (by omega)) ⟨by rw [hr]; exact doneE_end, by
                rw [hsz, sb_strOf (bok_take hrb _)]
                conv => rhs; rw [hlr]
                congr 1
                have := List.take_append_drop (rg l).2.1 (rg l).2.2
                rw [hr, List.append_nil] at this
                exact this⟩
          · exact once_txt_bad w A len cap m l ((rg l).2.2.drop (rg l).2.1) _ kind 0 _ hk hmin hmc hA hb hl
              (fun W br v h => rtext_ok W br (rg l).2.1 100 l _ v h hg hn (by decide) hlen) (wtext_new _ (by omega)) (doneE_more hr)
        · exact once_txt_bad w A len cap m l l _ kind 12 _ hk hmin hmc hA hb hl
            (fun W br v h => rtext_short W br (rg l).2.1 100 l _ v h hg hn (by decide) (by omega)) (wtext_new _ (by decide)) (doneE_err (by decide) _)
      · exact once_txt_bad w A len cap m l l _ kind (longE (rg l).2.1) _ hk hmin hmc hA hb hl
          (fun W br v h => rtext_err W br 100 _ l v h (longE_ne _) (fun W1 h1 => rcount_long W1 br (rg l).2.1 _ l _ v h1 hg hn (by decide) (by decide))) (wtext_new _ (by decide)) (doneE_err (longE_ne _) _)
    · exact once_txt_bad w A len cap m l l _ kind (rg l).1 _ hk hmin hmc hA hb hl
        (fun W br v h => rtext_err W br 100 _ l v h he (fun W1 h1 => rcount_err W1 br _ l v h1 he (by decide) (by decide))) (wtext_new _ (by decide)) (doneE_err he _)
end Go.Proofs.Ytmicmldhjmadcaa.Oc
