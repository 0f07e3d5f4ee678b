/-
  The contract of slices.Delete of one row, in place, and of Drop. Conditions: at most a thousand rows; a table of one's own.
-/
import Derived.Test.YtganokcmcdkdgaaTPutIs
import Derived.Deep.RegionLaw
namespace Go.Proofs.Ytganokcmcdkdgaa.Tb.Is
open Go.RowKit

theorem run_clear_row (w : World) (ty : TypeId) (g o c : Nat) (hc : ∀ j, j < 2 → (w.cell? ⟨g, o + j, none⟩).isSome = true) (hf : ∀ j, j < 2 → w.frozen? ⟨g, o + j, none⟩ = false) :
    (Builtin.clear_ #[69] ty #[.slice (some ⟨g, o, none⟩) 1 c]).run Try.prog w = .ok (.tuple #[]) (w.setCells g o [.int .i64 0, .string ByteArray.empty]) := by
  have hst := run_storeCells_cells (P := Try.prog) g o [.int .i64 0, .string ByteArray.empty] 0 w (by simpa using hc) (by simpa using hf) (fun u hu => by simp at hu; rcases hu with rfl | rfl <;> rfl)
  simp only [Nat.add_zero] at hst
  have hz2 : (Builtin.zeroCells (Value.agg #[.int .i64 0, .string ⟨#[]⟩]).cells 1).toList = [.int .i64 0, .string ByteArray.empty] := by kernel_rfl
  simp [Builtin.clear_, run_underlying Try.underlying69, Try.zeroValue110, hz2, hst]

set_option maxHeartbeats 4000000 in
set_option maxRecDepth 100000 in
theorem delete_one (g c i j n : Nat) (w : World) (cur : Array Value) (news : List Value) (hj : j = i + 1) (hi : i < n) (hn : n ≤ 1000) (hnc : n ≤ c) (_hcm : c ≤ 9223372036854775807)
    (hh : w.heap[g]? = some (.cells cur 110 (0, 0))) (hcs : cur.size = c * 2) (hl : news.length = (n - j) * 2) (hget : ∀ t u, news[t]? = some u → cur[j * 2 + t]? = some u) (h1 : ∀ u ∈ news, u.oneCell' = true) :
    Calls Try.prog 52 #[.slice (some ⟨g, 0, none⟩) n c, .int .i64 i, .int .i64 j] w fun e w' => e = .returned (.slice (some ⟨g, 0, none⟩) (i + (n - j)) c) ∧ w' = (w.drew.setCells g (i * 2) news).setCells g ((i + (n - j)) * 2) [.int .i64 0, .string ByteArray.empty] := by
  obtain ⟨i0, hi0, hz0, hz1, hz2⟩ := info_parts rowI
  obtain ⟨A, hA, hsrc⟩ : ∃ A : Addr, (if c = j then some (⟨g, 0, none⟩ : Addr) else some ⟨g, j * 2, none⟩) = some A ∧ Hid (∀ t u, news[t]? = some u → w.drew.cell? (A.add t) = some u) := by
    by_cases h : c = j
    · refine ⟨⟨g, 0, none⟩, by simp [h], fun t u hu => ?_⟩
      have h0 : news.length = 0 := by rw [hl]; omega
      rw [List.length_eq_zero_iff.1 h0] at hu
      simp at hu
    · refine ⟨⟨g, j * 2, none⟩, by simp [h], fun t u hu => ?_⟩
      rw [Addr.add_lit]
      show w.cell? _ = some u
      rw [cell_of_row _ _ _ _ _ _ hh]
      exact hget t u hu
  have s1 := Lib.hid hl
  have s2 := Lib.hid h1
  have s3 : Hid (∀ t, t < news.length → (w.drew.cell? ⟨g, 0 + i * 2 + t, none⟩).isSome = true ∧ w.drew.frozen? ⟨g, 0 + i * 2 + t, none⟩ = false) := by
    intro t ht
    rw [hl] at ht
    refine ⟨?_, frozen_of_row w.drew _ _ _ _ hh⟩
    show (w.cell? _).isSome = true
    rw [cell_of_row _ _ _ _ _ _ hh, Array.getElem?_eq_getElem (by omega)]; rfl
  obtain ⟨W1, hW1⟩ : ∃ W1, W1 = w.drew.setCells g (0 + i * 2) news := ⟨_, rfl⟩
  have hnm : n - (i + (n - j)) = 1 := by omega
  have hb1 : W1.heap[g]? = some (.cells (setL cur.toList (0 + i * 2) news).toArray 110 (0, 0)) := by rw [hW1]; exact heap_setCells _ _ _ _ _ _ hh
  have hbs : (setL cur.toList (0 + i * 2) news).toArray.size = c * 2 := by
    rw [setL_eq _ _ _ (by rw [hl]; simp; omega)]
    simp [hl]; omega
  have hcl : ∀ ty cc, (Builtin.clear_ #[69] ty #[.slice (some ⟨g, (i + (n - j)) * 2, none⟩) (n - (i + (n - j))) cc]).run Try.prog W1 = .ok (.tuple #[]) (W1.setCells g ((i + (n - j)) * 2) [.int .i64 0, .string ByteArray.empty]) := fun ty cc => by
    rw [hnm]
    exact run_clear_row W1 ty g ((i + (n - j)) * 2) cc (fun t ht => by rw [cell_of_row _ _ _ _ _ _ hb1, Array.getElem?_eq_getElem (by omega)]; rfl) (fun t ht => frozen_of_row _ _ _ _ _ hb1)
  have hW : Hid (W1 = w.drew.setCells g (0 + i * 2) news) := hW1
  have hmc : ¬ (c = i + (n - j)) := by omega
  have hmn : i + (n - j) ≤ n := by omega
  have hic : i ≤ c := by omega
  have hjc : j ≤ c := by omega
  have hij : i ≤ j := by omega
  have hjn : j ≤ n := by omega
  have hne : ¬ ((i : Int) = (j : Int)) := by omega
  clear hW1 hb1 hbs hh hcs hl hget h1
  clear hj hnm
  go_enter Try.func52, Try.ntmps52
  go_wp2_with fail
  go_region_law (refine step_append_room rfl (.tmp 22) (.tmp 25) 69 rfl 110 i0 2 Try.underlying69 hi0 hz1 g 0 i c (by simp [Act.eval, Act.put]) A (n - j) (c - j) news (by simp [Act.eval, Act.put]) s1.out hsrc.out s2.out (by omega) s3.out ?_; rw [← hW.out])
  all_goals (
    go_wp2
    go_ret
    exact ⟨rfl, by rw [hW.out, Nat.zero_add]⟩)

theorem del_list (l : List R) (p : Nat) (hp : p < l.length) (L : List Value) (c : Nat) (hL : L.length = c * 2) (hc : l.length ≤ c) (ht : L.take (l.length * 2) = cells l) :
    (setL (setL L (p * 2) (cells (l.drop (p + 1)))) ((p + (l.length - (p + 1))) * 2) [.int .i64 0, .string ByteArray.empty]).take ((p + (l.length - (p + 1))) * 2) = cells (l.take p ++ l.drop (p + 1)) ∧ (setL (setL L (p * 2) (cells (l.drop (p + 1)))) ((p + (l.length - (p + 1))) * 2) [.int .i64 0, .string ByteArray.empty]).length = c * 2 := by
  have hd : (cells (l.drop (p + 1))).length = (l.length - (p + 1)) * 2 := by rw [cells_len, List.length_drop]
  have htk : L.take (p * 2) = cells (l.take p) := by
    have h0 : cells l = cells (l.take p) ++ cells (l.drop p) := by rw [← cells_append, List.take_append_drop]
    have h2 := congrArg (List.take (p * 2)) ht
    rw [List.take_take, Nat.min_eq_left (by omega), h0, List.take_left' (by rw [cells_len, List.length_take]; omega)] at h2
    exact h2
  have e1 : setL L (p * 2) (cells (l.drop (p + 1))) = L.take (p * 2) ++ (cells (l.drop (p + 1)) ++ L.drop (p * 2 + (cells (l.drop (p + 1))).length)) := setL_eq _ _ _ (by rw [hd]; omega)
  have l1 : (setL L (p * 2) (cells (l.drop (p + 1)))).length = c * 2 := by rw [e1]; simp only [List.length_append, List.length_take, List.length_drop, hd]; omega
  have e2 := setL_eq [.int .i64 0, .string ByteArray.empty] (setL L (p * 2) (cells (l.drop (p + 1)))) ((p + (l.length - (p + 1))) * 2) (by rw [l1]; simp; omega)
  constructor
  · rw [e2, List.take_left' (by rw [List.length_take, l1]; omega), e1, htk, ← List.append_assoc, List.take_left' (by rw [List.length_append, hd, cells_len, List.length_take]; omega), ← cells_append]
  · rw [e2]; simp only [List.length_append, List.length_take, List.length_drop, l1, List.length_cons, List.length_nil]; omega
theorem dropL_has (l : List R) (k : K) (h : hasB l k = true) : dropL l k = l.take (pl l k) ++ l.drop (pl l k + 1) := by
  unfold dropL
  rw [if_pos h]
theorem dropL_not (l : List R) (k : K) (h : hasB l k = false) : dropL l k = l := by
  unfold dropL
  rw [h]
  simp

end Go.Proofs.Ytganokcmcdkdgaa.Tb.Is
