/-
  The contracts of the reference's 'Narrow' and 'Wide': the number of 64, of 128 bits. Conditions: none but the types' own ranges.
-/
import Derived.Test.YtjnohdkpkbiclaaBits
namespace Go.Proofs.Ytjnohdkpkbiclaa
open Go.RowKit

theorem twos4 (a : Int) (h0 : -9223372036854775808 ≤ a) (h1 : a ≤ 9223372036854775807) : twos (wds 4 (a % 18446744073709551616)) = a := by
  unfold twos
  rw [wds_len, val_wds 4 _ (by omega) (by simp only [bp]; omega)]
  simp only [wds, bp, List.getD_cons_succ, List.getD_cons_zero]
  split <;> omega
theorem twos8 (hi lo : Int) (h0 : -9223372036854775808 ≤ hi) (h1 : hi ≤ 9223372036854775807) (h2 : 0 ≤ lo) (h3 : lo ≤ 18446744073709551615) :
    twos (wds 4 lo ++ wds 4 (hi % 18446744073709551616)) = 18446744073709551616 * hi + lo := by
  unfold twos
  rw [List.length_append, wds_len, wds_len, val_append, wds_len, val_wds 4 _ h2 (by simp only [bp]; omega), val_wds 4 _ (by omega) (by simp only [bp]; omega)]
  simp only [wds, bp, List.cons_append, List.nil_append, List.getD_cons_succ, List.getD_cons_zero]
  split <;> omega

theorem owns_form {w : World} {base : Nat} {e : TypeId} {v : Value} {n : Nat} {xs : List Value} (h : w.ownsRow base e 1 v n xs) (hn : 0 < n) :
    ∃ g c, v = .slice (some ⟨g, 0, none⟩) n c ∧ base ≤ g ∧ g < w.heap.size := by
  rcases h.2 with ⟨_, h0⟩ | ⟨g, cap, cur, hv, hb, hg, _⟩
  · omega
  · exact ⟨g, cap, hv, hb, (Array.getElem?_eq_some_iff.1 hg).1⟩

set_option maxRecDepth 100000 in
set_option maxHeartbeats 1000000 in
theorem narrow_any (w : World) (a : Int) (h0 : -9223372036854775808 ≤ a) (h1 : a ≤ 9223372036854775807) :
    Calls Try.prog 8 #[.int .i64 a] w fun e w' => ∃ u, e = .returned u ∧ NumIs w' u a ∧ Below w.heap.size w w' := by
  have ht := Lib.hid (twos4 a h0 h1)
  go_enter Try.func8, Try.ntmps8
  go_wp2_with (first | (go_at_call 35; refine (words_any _ (a % 18446744073709551616) 4 (by omega) (by omega) (by decide)).mono ?_; rintro e w' ⟨v, rfl, hown, hbel⟩; have hd := Digs.of_owns hown) | (go_at_call 34; refine (bits_any _ _ _ hd (wds_inR _ _) (by rw [wds_len]; decide) (by rw [wds_len]; decide)).mono ?_; rw [ht.out]; rintro e w2 ⟨u, rfl, ⟨A2, n2, c2, rfl, hdig2⟩, hbel2⟩; have hres := block_kept (block_kept (block_new w _) hbel) hbel2; obtain ⟨dd0, dd1, gg0, gg1⟩ := blk2 hres))
  refine bodyPost_ret (v := .agg #[.bool (decide (a < 0)), .slice A2 n2 c2]) (by simp [results, Try.results8, go_sem, dd0, dd1]) rfl ⟨_, rfl, num_stored ⟨_, _, _, rfl, hdig2⟩ hres _ _, ?_⟩
  exact below_stored ((((Below.refl _ _).alloc (Nat.le_refl _) _).trans (hbel.mono (by simp))).trans (hbel2.mono (by have := hbel.size; simp at this; omega))) (Nat.le_refl _) _ _

theorem ints_len (ds : List Int) : (ints ds).length = ds.length := by simp [ints]
theorem ints_one (ds : List Int) : ∀ u ∈ ints ds, u.oneCell' = true := by
  intro u hu
  simp only [ints, List.mem_map] at hu
  obtain ⟨d, _, rfl⟩ := hu
  rfl
theorem ints_append (a b : List Int) : ints a ++ ints b = ints (a ++ b) := by simp [ints]
theorem addr_zero_add (g j : Nat) : (⟨g, 0, none⟩ : Addr).add j = ⟨g, j, none⟩ := by unfold Addr.add; split <;> simp_all

set_option maxRecDepth 100000 in
set_option maxHeartbeats 1000000 in
theorem wide_any (w : World) (a b : Int) (h0 : -9223372036854775808 ≤ a) (h1 : a ≤ 9223372036854775807) (h2 : 0 ≤ b) (h3 : b ≤ 18446744073709551615) :
    Calls Try.prog 43 #[.int .i64 a, .int .u64 b] w fun e w' => ∃ u, e = .returned u ∧ NumIs w' u (18446744073709551616 * a + b) ∧ Below w.heap.size w w' := by
  have ht := Lib.hid (twos8 a b h0 h1 h2 h3)
  obtain ⟨z, hz⟩ : ∃ z, z = 18446744073709551616 * a + b := ⟨_, rfl⟩
  rw [← hz] at ht ⊢
  clear hz
  obtain ⟨i0, hi, hz0, hz1, hz2⟩ := info_parts info_int
  go_enter Try.func43, Try.ntmps43
  go_wp2_with fail
  refine (words_any _ b 4 (by omega) (by omega) (by decide)).mono ?_
  rintro e w1 ⟨v, rfl, hown, hbel⟩
  have hsz0 : (w.alloc (.cells #[.bool false, .slice none 0 0] 25)).heap.size = w.heap.size + 1 := by simp
  rw [hsz0] at hown
  go_wp2_with fail
  refine (words_any _ (a % 18446744073709551616) 4 (by omega) (by omega) (by decide)).mono ?_
  rintro e w2 ⟨v', rfl, hown', hbel'⟩
  have hs1 : w.heap.size + 1 ≤ w1.heap.size := by rw [← hsz0]; exact hbel.size
  have hs2 := hbel'.size
  have hown2 : w2.ownsRow (w.heap.size + 1) 3 1 v 4 (ints (wds 4 b)) := by
    refine (hown.kept (row := none) ⟨hbel'.os, hbel'.tape, hbel'.output, hbel'.size, fun k hk _ => hbel'.block k hk⟩ ?_)
    cases hv : v.ownBlock <;> simp
  obtain ⟨g, c, rfl, hg0, hg1⟩ := owns_form hown' (by decide)
  have hcells : ∀ j u, (ints (wds 4 (a % 18446744073709551616)))[j]? = some u → w2.cell? ((⟨g, 0, none⟩ : Addr).add j) = some u := hown'.cells (g := g) rfl
  have HC := Lib.hid hcells
  have HO := Lib.hid hown2
  have hol := (hown2.lt)
  have HL := Lib.hid hol
  have hblk := Lib.hid (block_kept (block_kept (block_new w (.cells #[.bool false, .slice none 0 0] 25)) hbel) hbel')
  clear hcells hown hown' hown2 hol
  go_wp2_with (first | (at_builtin; refine wpList_append_own _ rfl (.tmp 6) (.tmp 9) 23 rfl (w.heap.size + 1) 3 i0 (.int .i64 0) 1 8 Try.underlying23 hi hz0 hz1 hz2 rfl (by decide) _ _ _ rfl HO.out ⟨g, 0, none⟩ 4 c _ rfl (by rw [ints_len, wds_len]) HC.out (ints_one _) (by decide) (by decide) (by omega) ?_; intro v3 w3 hown3 hgrow _; rw [ints_append] at hown3; have hd := Digs.of_owns hown3; have hb3 := Lib.hid (hgrow.block w.heap.size (by omega) (fun e => by have := (HL.out _ e.symm).1; omega))) | (go_at_call 34; refine (bits_any _ _ _ hd ((wds_inR _ _).append (wds_inR _ _)) (by simp [wds_len]) (by simp [wds_len])).mono ?_; rw [ht.out]; rintro e w4 ⟨u, rfl, ⟨A2, n2, c2, rfl, hdig2⟩, hbel2⟩; have hres := block_kept (hb3.out.trans hblk.out) hbel2; obtain ⟨dd0, dd1, gg0, gg1⟩ := blk2 hres))
  refine bodyPost_ret (v := .agg #[.bool (decide (z < 0)), .slice A2 n2 c2]) (by simp [results, Try.results43, go_sem, dd0, dd1]) rfl ⟨_, rfl, num_stored ⟨_, _, _, rfl, hdig2⟩ hres _ _, ?_⟩
  have k1 : Below w.heap.size w w2 := (((Below.refl _ _).alloc (Nat.le_refl _) _).trans (hbel.mono (by simp))).trans (hbel'.mono (by omega))
  have k2 : Below w.heap.size w w3 := k1.grown hgrow (by omega) (fun b hb => by have := (HL.out b hb).1; omega)
  exact below_stored (k2.trans (hbel2.mono k2.size)) (Nat.le_refl _) _ _
end Go.Proofs.Ytjnohdkpkbiclaa
