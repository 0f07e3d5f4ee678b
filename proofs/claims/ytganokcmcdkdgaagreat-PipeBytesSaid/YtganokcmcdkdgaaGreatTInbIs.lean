/-
  The contract of slices.Insert with one row, in all its ways. Conditions: at most a thousand rows; the row to insert lies in a block of its own.
-/
import Derived.Test.YtganokcmcdkdgaaGreatPZ2
namespace Go.Proofs.YtganokcmcdkdgaaGreat.Tb.Is
open Go.RowKit

theorem zeroCells_size (k : Nat) : (Builtin.zeroCells (Value.agg #[.int .i64 0, .string ByteArray.empty]).cells k).size = k * 2 := by
  simp [Builtin.zeroCells, Value.cells]
  try omega

def InsG (w : World) (i : Nat) (l : List R) (r : R) (e : Ending) (w' : World) : Prop :=
  ∃ (ROW : Array Value) (G : Nat), e = .returned (.slice (some ⟨w.heap.size, 0, none⟩) (l.length + 1) G) ∧ l.length + 1 ≤ G ∧ G ≤ maxLen ∧ ROW.size = G * 2 ∧ ROW.toList.take (i * 2) = cells (l.take i) ∧
    w' = (((w.alloc (.cells ROW 151)).drew.setCells w.heap.size (i * 2) [ek r.1, ev r.2]).drew).setCells w.heap.size ((i + 1) * 2) (cells (l.drop i))
set_option maxHeartbeats 4000000 in
set_option maxRecDepth 100000 in
theorem ins_grow (g c i vb : Nat) (l : List R) (r : R) (w : World) (cur : Array Value) (hi : i < l.length) (hn : l.length ≤ 1000) (hnc : l.length ≤ c) (hroom : c < l.length + 1)
    (hg : w.heap[g]? = some (.cells cur 151 (0, 0))) (_hcs : cur.size = c * 2) (hcl : cur.toList.take (l.length * 2) = cells l) (hb : w.heap[vb]? = some (.cells #[ek r.1, ev r.2] 151 (0, 0))) :
    Calls Tryz.prog 101 #[.slice (some ⟨g, 0, none⟩) l.length c, .int .i64 i, .slice (some ⟨vb, 0, none⟩) 1 1] w (InsG w i l r) := by
  obtain ⟨i0, hi0, hz0, hzs, hzb⟩ := info_parts rowI
  have hgw : g < w.heap.size := (Array.getElem?_eq_some_iff.1 hg).1
  have hvw : vb < w.heap.size := (Array.getElem?_eq_some_iff.1 hb).1
  have cg : ∀ j u, (cells l)[j]? = some u → w.cell? ⟨g, j, none⟩ = some u := fun j u e => by
    rw [← hcl, List.getElem?_take] at e
    split at e
    · rw [cell_of_row _ _ _ _ _ _ hg]; simpa using e
    · cases e
  have cl : cells l = cells (l.take i) ++ cells (l.drop i) := by rw [← cells_append, List.take_append_drop]
  have ct : ∀ j u, (cells (l.take i))[j]? = some u → w.cell? ⟨g, j, none⟩ = some u := fun j u e => cg j u (by
    rw [cl, List.getElem?_append_left (List.getElem?_eq_some_iff.1 e).1]; exact e)
  have hsrc : ∀ j u, (cells (l.drop i))[j]? = some u → w.cell? ⟨g, i * 2 + j, none⟩ = some u := fun j u e => cg _ u (by
    rw [cl, List.getElem?_append_right (by rw [cells_len, List.length_take]; omega), cells_len, List.length_take, show i * 2 + j - min i l.length * 2 = j by omega]; exact e)
  obtain ⟨n, hnl⟩ : ∃ n, n = l.length := ⟨_, rfl⟩
  have htl : (cells (l.take i)).length = i * 2 := by rw [cells_len, List.length_take]; omega
  have hdl : (cells (l.drop i)).length = (n - i) * 2 := by rw [cells_len, List.length_drop, hnl]
  have hold : (Builtin.firstCells i0.size i (.slice (some ⟨g, 0, none⟩) i c)).run Tryz.prog w.drew = .ok (cells (l.take i)).toArray w.drew := by
    rw [hzs]
    exact run_firstCells_some w.drew 2 i ⟨g, 0, none⟩ i c (cells (l.take i)) htl (fun j v hj => by
      rw [Addr.add_lit, Nat.zero_add]
      exact ct j v hj)
  have hkk : (n : Int) + 1 - (i : Int) = ((n + 1 - i : Nat) : Int) := by omega
  have hik : i + (n + 1 - i) = n + 1 := by omega
  have hrz : ∀ ty, (Builtin.append_ #[104, 3] ty #[.slice (some ⟨g, 0, none⟩) i c, .int .i64 ((n : Int) + 1 - (i : Int))]).run Tryz.prog w =
      .ok (.slice (some ⟨w.heap.size, 0, none⟩) (n + 1) (grownCap w (n + 1) c 151)) (w.drew.alloc (.cells ((cells (l.take i)).toArray ++ Builtin.zeroCells (Value.agg #[.int .i64 0, .string ByteArray.empty]).cells (n + 1 - i) ++ Builtin.zeroCells (Value.agg #[.int .i64 0, .string ByteArray.empty]).cells (grownCap w (n + 1) c 151 - (n + 1))) 151)) := fun ty => by
    have h := Lib.run_append_grow_zeros w 104 3 ty 151 i0 _ .i64 .i64 Tryz.underlying104 Tryz.underlying3 hi0 hz0 (some ⟨g, 0, none⟩) i c (cells (l.take i)) hold (n + 1 - i) (by omega) (by omega) (by omega) (by omega) (by rw [hzb]; omega) (by rw [hzb, hik]; exact growslice_fits (by omega) (by omega))
    rw [hik] at h
    rw [hkk]
    exact h
  obtain ⟨G, hG⟩ : ∃ G, G = grownCap w (n + 1) c 151 := ⟨_, rfl⟩
  obtain ⟨ROW, hROW⟩ : ∃ ROW : Array Value, ROW = (cells (l.take i)).toArray ++ Builtin.zeroCells (Value.agg #[.int .i64 0, .string ByteArray.empty]).cells (n + 1 - i) ++ Builtin.zeroCells (Value.agg #[.int .i64 0, .string ByteArray.empty]).cells (G - (n + 1)) := ⟨_, rfl⟩
  have hGn : n + 1 ≤ G := by rw [hG]; exact grownCap_ge w _ _ _
  have hG63 : G ≤ maxLen := by rw [hG]; exact grownCap_le_maxLen w (n + 1) c 151 (by unfold maxLen; omega)
  have hRs : ROW.size = G * 2 := by rw [hROW, Array.size_append, Array.size_append, zeroCells_size, zeroCells_size, List.size_toArray, htl]; omega
  have hRt : ROW.toList.take (i * 2) = cells (l.take i) := by
    rw [hROW, Array.toList_append, Array.toList_append, List.append_assoc, List.take_append_of_le_length (by simp [htl]), List.take_of_length_le (by simp [htl])]
  rw [← hG] at hrz
  rw [← hROW] at hrz
  clear hROW hG hold ct cg cl
  obtain ⟨W1, hW1⟩ : ∃ W1, W1 = w.drew.alloc (.cells ROW 151) := ⟨_, rfl⟩
  have n1 : W1.heap[w.heap.size]? = some (.cells ROW 151 (0, 0)) := by rw [hW1]; exact block_new w.drew _
  have v1 : W1.heap[vb]? = some (.cells #[ek r.1, ev r.2] 151 (0, 0)) := by rw [hW1]; exact block_old (w := w.drew) hb _
  have g1 : W1.heap[g]? = some (.cells cur 151 (0, 0)) := by rw [hW1]; exact block_old (w := w.drew) hg _
  have hcpA : ∀ (W : World), W.heap = W1.heap → ∀ ty dc, (Builtin.copy_ #[104, 104] ty #[.slice (some ⟨w.heap.size, i * 2, none⟩) (n + 1 - i) dc, .slice (some ⟨vb, 0, none⟩) 1 1]).run Tryz.prog W = .ok (goInt 1) (W.setCells w.heap.size (i * 2) [ek r.1, ev r.2]) := fun W hW ty dc => by
    rw [← hW] at n1 v1
    have hmi : Nat.min 1 (n + 1 - i) = 1 := by simp only [Nat.min_def]; split <;> omega
    have h := run_copy_rows W ty w.heap.size (i * 2) (n + 1 - i) dc ⟨vb, 0, none⟩ 1 1 [ek r.1, ev r.2] (by rw [hmi]; rfl)
      (fun j v hj => by
        rw [Addr.add_lit, Nat.zero_add, cell_of_row _ _ _ _ _ _ v1]
        simpa using hj)
      (fun j hj => by
        rw [cell_of_row _ _ _ _ _ _ n1, Array.getElem?_eq_getElem (by simp at hj; omega)]; rfl)
      (fun j hj => frozen_of_row _ _ _ _ _ n1) (cells_one [r])
    rw [hmi] at h
    exact h
  obtain ⟨W2, hW2⟩ : ∃ W2, W2 = W1.setCells w.heap.size (i * 2) [ek r.1, ev r.2] := ⟨_, rfl⟩
  have n2 : W2.heap[w.heap.size]? = some (.cells (setL ROW.toList (i * 2) [ek r.1, ev r.2]).toArray 151 (0, 0)) := by rw [hW2]; exact heap_setCells _ _ _ _ _ _ n1
  have s2 : (setL ROW.toList (i * 2) [ek r.1, ev r.2]).toArray.size = G * 2 := by
    rw [setL_eq _ _ _ (by simp; omega)]
    simp; omega
  have g2 : W2.heap[g]? = some (.cells cur 151 (0, 0)) := by
    rw [hW2, (grownBy_setCells w.heap.size _ _ W1).block g (Array.getElem?_eq_some_iff.1 g1).1 (by simp; omega)]
    exact g1
  have hcpB : ∀ (W : World), W.heap = W2.heap → ∀ ty dc sc, (Builtin.copy_ #[104, 104] ty #[.slice (some ⟨w.heap.size, (i + 1) * 2, none⟩) (n - i) dc, .slice (some ⟨g, i * 2, none⟩) (n - i) sc]).run Tryz.prog W = .ok (goInt (n - i : Nat)) (W.setCells w.heap.size ((i + 1) * 2) (cells (l.drop i))) := fun W hW ty dc sc => by
    rw [← hW] at n2 g2
    have hmi : Nat.min (n - i) (n - i) = n - i := Nat.min_self _
    have h := run_copy_rows W ty w.heap.size ((i + 1) * 2) (n - i) dc ⟨g, i * 2, none⟩ (n - i) sc (cells (l.drop i)) (by rw [hmi]; exact hdl)
      (fun j v hj => by
        have := hsrc j v hj
        rw [cell_of_row _ _ _ _ _ _ hg] at this
        rw [Addr.add_lit, cell_of_row _ _ _ _ _ _ g2]
        exact this)
      (fun j hj => by
        rw [cell_of_row _ _ _ _ _ _ n2, Array.getElem?_eq_getElem (by omega)]; rfl)
      (fun j hj => frozen_of_row _ _ _ _ _ n2) (cells_one _)
    rw [hmi] at h
    exact h
  have HW1 := Lib.hid hW1
  have HW2 := Lib.hid hW2
  have HG := Lib.hid hg
  have HNL := Lib.hid hnl
  have HRS := Lib.hid hRs
  have HRT := Lib.hid hRt
  have hE1 : ((w.alloc (.cells ROW 151)).drew).heap = W1.heap := by rw [hW1]; rfl
  have hF1 : (((w.alloc (.cells ROW 151)).drew.setCells w.heap.size (i * 2) [ek r.1, ev r.2]).drew).heap = W2.heap := by
    rw [hW2, hW1]
    show ((w.alloc _).drew.setCells _ _ _).heap = _
    rfl
  have hz2 : ¬ ((i : Int) = (n : Int)) := by omega
  have hw1 : IntKind.i64.wrap ((i : Int) + 1) = (i : Int) + 1 := by rw [IntKind.wrap_i64]; omega
  have hb1' : (0 : Int) ≤ (i : Int) + 1 := by omega
  have hin : i ≤ n := by omega
  have hz3 : (c : Int) < (n : Int) + 1 := by omega
  have htn : ((i : Int) + 1).toNat = i + 1 := by omega
  have hGi : ¬ (G = i) := by omega
  have hGim : ¬ (G = i + 1) := by omega
  have hci : ¬ (c = i) := by omega
  have hb3 : (i : Int) ≤ (n : Int) := by omega
  have hG64 : G ≤ 9223372036854775807 := by unfold maxLen at hG63; omega
  rw [← hnl] at hi hn hnc hroom ⊢
  clear hW1 hW2 hg hnl hRs hRt n1 v1 g1 n2 g2 s2 hcl hb hsrc htl hdl hkk hik hzs hzb hz0 hi0
  go_enter Tryz.func101, Tryz.ntmps101
  go_wp2_with (first
    | (at_builtin; refine Lib.wpList_append_run _ rfl _ _ _ _ rfl _ _ rfl rfl _ _ (hrz _) ?_)
    | (at_builtin; refine wpList_copy_runI _ rfl _ _ 104 104 rfl _ _ rfl rfl (hcpA _ hE1 _ _) ?_))
  go_region_law (refine step_copy_runI rfl _ _ 104 104 rfl (.slice (some ⟨w.heap.size, (i + 1) * 2, none⟩) (n - i) (G - (i + 1))) (.slice (some ⟨g, i * 2, none⟩) (n - i) (c - i)) (by simp [Act.eval, Act.put]) (by simp [Act.eval, Act.put]) (hcpB _ hF1 3 (G - (i + 1)) (c - i)) ?_)
  go_wp2
  go_ret
  exact ⟨ROW, G, (by rw [← HNL.out]; rfl), by rw [← HNL.out]; exact hGn, hG63, HRS.out, HRT.out, rfl⟩

/-- What slices.Insert leaves: the longer row, owned; nothing else written but the old row's block. -/
def InsP (base : Nat) (w : World) (v : Value) (l2 : List R) (n : Nat) (e : Ending) (w' : World) : Prop :=
  ∃ g cap, e = .returned (.slice (some ⟨g, 0, none⟩) n cap) ∧ w'.ownsRow base 151 2 (.slice (some ⟨g, 0, none⟩) n cap) n (cells l2) ∧ w.grownBy w' v.ownBlock ∧ (v.ownBlock = some g ∨ w.heap.size ≤ g)
theorem ins_list (l : List R) (r : R) (i : Nat) (hi : i ≤ l.length) (L : List Value) (c : Nat) (hL : L.length = c * 2) (hc : l.length + 1 ≤ c) (ht : L.take (i * 2) = cells (l.take i)) :
    (setL (setL L (i * 2) [ek r.1, ev r.2]) ((i + 1) * 2) (cells (l.drop i))).take ((l.length + 1) * 2) = cells (l.take i ++ r :: l.drop i) ∧ (setL (setL L (i * 2) [ek r.1, ev r.2]) ((i + 1) * 2) (cells (l.drop i))).length = c * 2 ∧
    (setL (setL L ((i + 1) * 2) (cells (l.drop i))) (i * 2) [ek r.1, ev r.2]).take ((l.length + 1) * 2) = cells (l.take i ++ r :: l.drop i) ∧ (setL (setL L ((i + 1) * 2) (cells (l.drop i))) (i * 2) [ek r.1, ev r.2]).length = c * 2 := by
  have hd : (cells (l.drop i)).length = (l.length - i) * 2 := by rw [cells_len, List.length_drop]
  have htl : (cells (l.take i)).length = i * 2 := by rw [cells_len, List.length_take]; omega
  obtain ⟨A, B, hAB, hA⟩ : ∃ A B, L = A ++ B ∧ A = cells (l.take i) := ⟨L.take (i * 2), L.drop (i * 2), (List.take_append_drop _ _).symm, ht⟩
  have hAl : A.length = i * 2 := by rw [hA, htl]
  have hB : B.length = c * 2 - i * 2 := by have := congrArg List.length hAB; simp at this; omega
  obtain ⟨x, y, B2, rfl⟩ : ∃ x y B2, B = x :: y :: B2 := by
    match B, hB with
    | x :: y :: B2, _ => exact ⟨x, y, B2, rfl⟩
    | [], h => simp at h; omega
    | [x], h => simp at h; omega
  obtain ⟨C, D, hCD, hC⟩ : ∃ C D, B2 = C ++ D ∧ C.length = (l.length - i) * 2 := ⟨B2.take ((l.length - i) * 2), B2.drop ((l.length - i) * 2), (List.take_append_drop _ _).symm, by rw [List.length_take]; simp at hB; omega⟩
  have hfin : cells (l.take i ++ r :: l.drop i) = A ++ ([ek r.1, ev r.2] ++ cells (l.drop i)) := by rw [cells_append, cells_cons, hA]; rfl
  have e1 : setL (setL L (i * 2) [ek r.1, ev r.2]) ((i + 1) * 2) (cells (l.drop i)) = A ++ ([ek r.1, ev r.2] ++ (cells (l.drop i) ++ D)) := by
    rw [setL_eq [ek r.1, ev r.2] L _ (by rw [hL]; simp <;> omega), hAB, List.take_left' hAl, show A ++ x :: y :: B2 = (A ++ [x, y]) ++ B2 by simp, List.drop_left' (by simp [hAl])]
    rw [setL_eq _ _ _ (by rw [hd, hCD]; simp [hAl, hC] <;> omega), hCD, show A ++ ([ek r.1, ev r.2] ++ (C ++ D)) = (A ++ [ek r.1, ev r.2]) ++ (C ++ D) by simp, List.take_left' (by simp [hAl] <;> omega), show (A ++ [ek r.1, ev r.2]) ++ (C ++ D) = ((A ++ [ek r.1, ev r.2]) ++ C) ++ D by simp, List.drop_left' (by rw [hd]; simp [hAl, hC] <;> omega)]
    simp
  have e2 : setL (setL L ((i + 1) * 2) (cells (l.drop i))) (i * 2) [ek r.1, ev r.2] = A ++ ([ek r.1, ev r.2] ++ (cells (l.drop i) ++ D)) := by
    rw [setL_eq (cells (l.drop i)) L _ (by rw [hL, hd]; omega), hAB, hCD, show A ++ x :: y :: (C ++ D) = (A ++ [x, y]) ++ (C ++ D) by simp, List.take_left' (by simp [hAl] <;> omega), show (A ++ [x, y]) ++ (C ++ D) = ((A ++ [x, y]) ++ C) ++ D by simp, List.drop_left' (by rw [hd]; simp [hAl, hC] <;> omega)]
    rw [setL_eq _ _ _ (by simp [hAl] <;> omega), show (A ++ [x, y]) ++ (cells (l.drop i) ++ D) = A ++ ([x, y] ++ (cells (l.drop i) ++ D)) by simp, List.take_left' hAl, show A ++ ([x, y] ++ (cells (l.drop i) ++ D)) = (A ++ [x, y]) ++ (cells (l.drop i) ++ D) by simp, List.drop_left' (by simp [hAl])]
  have hlen : (A ++ ([ek r.1, ev r.2] ++ (cells (l.drop i) ++ D))).length = c * 2 := by
    have := congrArg List.length hCD
    simp at this hB
    simp [hAl, hd]; omega
  have htk : (A ++ ([ek r.1, ev r.2] ++ (cells (l.drop i) ++ D))).take ((l.length + 1) * 2) = cells (l.take i ++ r :: l.drop i) := by
    rw [hfin, show A ++ ([ek r.1, ev r.2] ++ (cells (l.drop i) ++ D)) = (A ++ ([ek r.1, ev r.2] ++ cells (l.drop i))) ++ D by simp, List.take_left' (by simp [hAl, hd] <;> omega)]
  rw [e1, e2]
  exact ⟨htk, hlen, htk, hlen⟩
end Go.Proofs.YtganokcmcdkdgaaGreat.Tb.Is
