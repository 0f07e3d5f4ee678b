/-
  The contracts of Members and Isins: the members of a home, all instruments, rising, as new memory. Conditions: at most a thousand rows.
-/
import Derived.Test.YtkoihpfgleboiaaRPeer
import Derived.Test.YtkoihpfgleboiaaREachSi
import Derived.Test.YtkoihpfgleboiaaREachSu
import Derived.Laws.MakeOwn
namespace Go.Proofs.Ytkoihpfgleboiaa.Ro
open Go.RowKit Go.Shelf Tb
attribute [local go_sem] Oper.semAt_some

/-- The members of that home. -/
def memsL (k : Int) (M : List (ByteArray × Int)) : List ByteArray := (M.filter fun r => decide (r.2 = k)).map (·.1)
def keysL (I : List (ByteArray × Unit)) : List ByteArray := I.map (·.1)
theorem memsL_snoc (k : Int) (M : List (ByteArray × Int)) (r : ByteArray × Int) : memsL k (M ++ [r]) = memsL k M ++ if r.2 = k then [r.1] else [] := by
  unfold memsL
  rw [List.filter_append, List.map_append]
  congr 1
  by_cases h : r.2 = k
  · simp [h]
  · simp [h]
theorem keysL_snoc (M : List (ByteArray × Unit)) (r : ByteArray × Unit) : keysL (M ++ [r]) = keysL M ++ [r.1] := by unfold keysL; rw [List.map_append]; rfl
theorem memsL_len (k : Int) (M : List (ByteArray × Int)) : (memsL k M).length ≤ M.length := by
  have := List.length_filter_le (fun r : ByteArray × Int => decide (r.2 = k)) M
  simpa [memsL] using this
theorem keysL_len (M : List (ByteArray × Unit)) : (keysL M).length = M.length := by simp [keysL]
set_option maxRecDepth 100000 in
set_option maxHeartbeats 2000000 in
theorem members_some (w : World) (b : Nat) (n : Int) (I : List (ByteArray × Unit)) (M : List (ByteArray × Int)) (k : Int) (h : RosS w b n I M) (hn : M.length ≤ 1000) :
    Calls Try.prog 14 #[.pointer (some ⟨b, 0, none⟩), .int .i64 k] w fun e w' => ∃ v, e = .returned v ∧ w'.ownsRow w.heap.size 9 1 v (memsL k M).length (strs (memsL k M)) ∧ Below w.heap.size w w' := by
  obtain ⟨i0, hi, hz0, hz1, hz2⟩ := info_parts infoS
  have hB1 : Below w.heap.size w (w.alloc (.cells #[.int .i64 k] 3)) := (Below.refl _ _).alloc (Nat.le_refl _) _
  have HT : Hid (Si.TabR (w.alloc (.cells #[.int .i64 k] 3)) (some ⟨b, 2, none⟩) M) := (h.below hB1).homes
  have HB1 := Lib.hid hB1
  clear h hB1
  refine (callsIn_wide (n := 4)).1 ?_
  refine callsIn_of_wp_marks Try.func14 rfl trivial ?_ rfl
  simp only [Try.ntmps14, List.size_toArray, List.length_cons, List.length_nil, Nat.reduceAdd, Nat.reduceSub, Array.replicate_succ, Array.replicate_zero, List.push_toArray, List.append_toArray, List.nil_append, List.cons_append]
  gi_wp2_with (first
    | (refine ⟨trivial, ?_⟩; gi_at_call 32; refine (callsIn_wide.2 (orEmpty_some _ b)).mono ?_; rintro e w' ⟨rfl, rfl⟩)
    | (refine ⟨trivial, ?_⟩; gi_at_call 34; refine (callsIn_wide.2 (Si.each_any _ _)).mono ?_; rintro e w' ⟨rfl, rfl⟩))
  obtain ⟨wT, hwT⟩ : ∃ wT, wT = (w.alloc (.cells #[.int .i64 k] 3)) := ⟨_, rfl⟩
  have hzT : wT.heap.size = w.heap.size + 1 := by rw [hwT]; simp
  obtain ⟨W0, hW0⟩ : ∃ W0, W0 = ((((w.alloc (.cells #[.int .i64 k] 3)).alloc (.cells #[.slice none 0 0] 22))).alloc (.cells #[.pointer (some ⟨b, 2, none⟩)] 96)) := ⟨_, rfl⟩
  have b1 : Boxed W0 (w.heap.size + 1) 22 (.slice none 0 0) := by
    rw [hW0]
    have := Boxed.new (w.alloc (.cells #[.int .i64 k] 3)) 22 (.slice none 0 0)
    rw [World.size_alloc] at this
    exact this.alloc _
  have b3 : W0.heap[w.heap.size + 1 + 1]? = some (.cells #[.pointer (some ⟨b, 2, none⟩)] 96 (0, 0)) := by
    have := block_new ((w.alloc (.cells #[.int .i64 k] 3)).alloc (.cells #[.slice none 0 0] 22)) (.cells #[.pointer (some ⟨b, 2, none⟩)] 96)
    rw [World.size_alloc, World.size_alloc] at this
    rw [hW0]; exact this
  have hB0 : Below wT.heap.size wT W0 := by
    rw [hW0, hwT]
    exact ((Below.refl _ _).alloc (Nat.le_refl _) _).alloc (by simp) _
  have hsz : w.heap.size + 1 + 1 < W0.heap.size := (Array.getElem?_eq_some_iff.1 b3).1
  have HT2 : Hid (Si.TabR wT (some ⟨b, 2, none⟩) M) := by rw [hwT]; exact HT
  have cN0 : wT.cell? ⟨w.heap.size, 0, none⟩ = some (.int .i64 k) := by rw [hwT, cell_of_row _ _ _ _ _ _ (block_new w _)]; rfl
  have HBT : Hid (Below w.heap.size w wT) := by rw [hwT]; exact HB1
  rw [← hW0]
  clear hW0 hwT HT HB1
  refine wpIn_rangeFunc_ownG rfl (by omega) (gf := 45) (lb := #[.pointer (some ⟨w.heap.size + 1 + 1, 0, none⟩)]) rfl trivial (enters_of Try.func45 (by kernel_rfl) rfl)
    (Si.each_stops _ (by omega) (w.heap.size + 1 + 1) wT _ M HT2.out hn W0 hB0 b3) belowK_t (belowK_b (by omega)) (Below.refl _ _) (fun _ => rfl)
    (fun (pre : List (ByteArray × Int)) W => (∃ v, Boxed W (w.heap.size + 1) 22 v ∧ W.ownsRow wT.heap.size 9 1 v (memsL k pre).length (strs (memsL k pre)) ∧ True) ∧ Below wT.heap.size wT W)
    (fun _ _ _ => False)
    (OwnFrom.and (Own.from (holdsRow_own wT.heap.size (w.heap.size + 1) 22 9 1 (fun pre : List (ByteArray × Int) => (memsL k pre).length) (fun pre => strs (memsL k pre)) (fun _ _ => True)) _) (ownFrom_below (Nat.le_refl _) (by omega)))
    (fun _ _ _ _ _ hs _ _ => hs)
    ⟨⟨_, b1, World.ownsRow_nil _ _ _ _, trivial⟩, hB0⟩
    (fun x => { tmps := #[.pointer (some ⟨b, 0, none⟩), .int .i64 k, undef, .pointer (some ⟨w.heap.size, 0, none⟩), .slice none 0 0, .pointer (some ⟨w.heap.size + 1, 0, none⟩), .string x.1, .int .i64 x.2, .pointer (some ⟨b, 0, none⟩), .pointer (some ⟨b, 0, none⟩), .pointer (some ⟨b, 0, none⟩), .pointer (some ⟨b, 2, none⟩), .pointer (some ⟨b, 2, none⟩), .func (.func 45) #[] #[.pointer (some ⟨w.heap.size + 1 + 1, 0, none⟩)], .string x.1, .int .i64 x.2, undef, undef, undef, undef, undef, undef, undef, undef], defers := [] }) ?assign ?body ?done ?stop
  case assign =>
    intro l x W K hK
    gi_wp2
    exact hK
  case body =>
    rintro l pre x W ⟨⟨v, hv, hrow, _⟩, hB⟩ hlt
    have hc := hv.cell
    have hln : (memsL k pre).length ≤ 1000 := by have := memsL_len k pre; omega
    have HB := Lib.hid hB
    have HV := Lib.hid hv
    have hsn := memsL_snoc k pre x
    obtain ⟨ln, hlne⟩ : ∃ ln, ln = (memsL k pre).length := ⟨_, rfl⟩
    rw [← hlne] at hrow hln
    have HLN := Lib.hid hlne
    have HROW := Lib.hid hrow
    have hz1' := hB.size
    have cN : W.cell? ⟨w.heap.size, 0, none⟩ = some (.int .i64 k) := (hB.cell (p := ⟨w.heap.size, 0, none⟩) (show w.heap.size < wT.heap.size by omega)).trans cN0
    clear hB hv hrow hlne
    by_cases hk : x.2 = k
    · rw [if_pos hk] at hsn
      have HSN := Lib.hid hsn
      have hk' : (x.2 == k) = true := by simpa using hk
      clear hsn hk
      gi_wp2_with (gi_at_builtin; refine wpListIn_append_own _ rfl _ _ 22 rfl wT.heap.size 9 i0 (.string ByteArray.empty) 1 16 Try.underlying22 hi hz0 hz1 hz2 rfl (by decide) _ _ _ rfl (HROW.out.alloc _) ⟨W.heap.size, 0, none⟩ 1 1 [.string x.1] rfl rfl (World.news_of_block (cs := #[.string x.1]) (t := 9) (fr := (0, 0)) (heap_alloc_new W _)) (by simp [Value.oneCell']) (by unfold maxLen; omega) (by omega) (by simp; omega) ?_; intro v' w1 hown' hgrow _; obtain ⟨g', cap', rfl⟩ := ownsRow_succ hown'; obtain ⟨hv1, hv2, hr2, hk2, hb2⟩ := HV.out.appended (by decide) HROW.out hz1' (by omega) hown' hgrow; have hc1 := hv1.cell; have hf1 := hv1.frozen)
      refine ⟨hk2.from _, hb2, ⟨_, hv2, ?_, trivial⟩, HB.out.trans hb2⟩
      rw [HSN.out, List.length_append, ← HLN.out]
      simpa [strs] using hr2
    · rw [if_neg hk, List.append_nil] at hsn
      have HSN := Lib.hid hsn
      have hk' : (x.2 == k) = false := by simpa using hk
      clear hsn hk
      gi_wp2
      refine ⟨KeepsFrom.refl _ _, Below.refl _ _, ⟨_, HV.out, ?_, trivial⟩, HB.out⟩
      rw [HSN.out, ← HLN.out]
      exact HROW.out
  case done =>
    rintro D ys W hD rfl ⟨⟨v, hv, hrow, _⟩, hB⟩ hK
    have hc := hv.cell
    gi_wp2
    refine ⟨by simp, .inl ⟨_, _, rfl, run_takeDeferred hK, ?_⟩⟩
    exact ⟨_, results_tmp rfl _ _ _, v, rfl, ownsRow_putObj (own_base hrow (by omega)) _ hK rfl, (HBT.out.trans (hB.mono HBT.out.size)).trans (belowK_b (w := w) (Nat.le_refl _) W D _ _ (by omega) hK rfl rfl)⟩
  case stop =>
    rintro D c pre W _ _ h _
    exact h.elim
set_option maxRecDepth 100000 in
set_option maxHeartbeats 2000000 in
theorem members_nil (w : World) (k : Int)  :
    Calls Try.prog 14 #[.pointer none, .int .i64 k] w fun e w' => ∃ v, e = .returned v ∧ w'.ownsRow w.heap.size 9 1 v (memsL k []).length (strs (memsL k [])) ∧ Below w.heap.size w w' := by
  obtain ⟨i0, hi, hz0, hz1, hz2⟩ := info_parts infoS
  refine (callsIn_wide (n := 4)).1 ?_
  refine callsIn_of_wp_marks Try.func14 rfl trivial ?_ rfl
  simp only [Try.ntmps14, List.size_toArray, List.length_cons, List.length_nil, Nat.reduceAdd, Nat.reduceSub, Array.replicate_succ, Array.replicate_zero, List.push_toArray, List.append_toArray, List.nil_append, List.cons_append]
  gi_wp2_with (first
    | (refine ⟨trivial, ?_⟩; gi_at_call 32; refine (callsIn_wide.2 (orEmpty_none _)).mono ?_; rintro e w' ⟨rfl, rfl⟩)
    | (refine ⟨trivial, ?_⟩; gi_at_call 34; refine (callsIn_wide.2 (Si.each_any _ _)).mono ?_; rintro e w' ⟨rfl, rfl⟩))
  obtain ⟨wT, hwT⟩ : ∃ wT, wT = (((w.alloc (.cells #[.int .i64 k] 3)).alloc (.cells #[.slice none 0 0] 22))).alloc (.cells #[.int .i64 0, .slice none 0 0, .slice none 0 0] 77) := ⟨_, rfl⟩
  have hzT : wT.heap.size = w.heap.size + 1 + 1 + 1 := by rw [hwT]; simp
  have b1 : Boxed wT (w.heap.size + 1) 22 (.slice none 0 0) := by
    rw [hwT]
    have := Boxed.new (w.alloc (.cells #[.int .i64 k] 3)) 22 (.slice none 0 0)
    rw [World.size_alloc] at this
    exact this.alloc _
  have HR : Hid (RosS wT (w.heap.size + 1 + 1) 0 [] []) := by
    show RosS wT (w.heap.size + 1 + 1) 0 [] []
    rw [hwT]
    have := RosS.new ((w.alloc (.cells #[.int .i64 k] 3)).alloc (.cells #[.slice none 0 0] 22)) (.cells #[.int .i64 0, .slice none 0 0, .slice none 0 0] 77) rfl
    rw [World.size_alloc, World.size_alloc] at this
    exact this
  have HBT : Hid (Below w.heap.size w wT) := by
    show Below w.heap.size w wT
    rw [hwT]
    exact (((Below.refl _ w).alloc (Nat.le_refl _) _).alloc (by simp) _).alloc (by simp; omega) _
  obtain ⟨W0, hW0⟩ : ∃ W0, W0 = wT.alloc (.cells #[.pointer (some ⟨w.heap.size + 1 + 1, 2, none⟩)] 96) := ⟨_, rfl⟩
  have b1' : Boxed W0 (w.heap.size + 1) 22 (.slice none 0 0) := by rw [hW0]; exact b1.alloc _
  have b3 : W0.heap[w.heap.size + 1 + 1 + 1]? = some (.cells #[.pointer (some ⟨w.heap.size + 1 + 1, 2, none⟩)] 96 (0, 0)) := by
    rw [hW0, ← hzT]; exact block_new _ _
  have hB0 : Below wT.heap.size wT W0 := by
    rw [hW0]
    exact (Below.refl _ wT).alloc (Nat.le_refl _) _
  have hsz : w.heap.size + 1 + 1 + 1 < W0.heap.size := (Array.getElem?_eq_some_iff.1 b3).1
  have hnil : ([] : List (ByteArray × Int)).length ≤ 1000 := by simp
  rw [← hwT, ← hW0]
  clear hW0 hwT b1
  refine wpIn_rangeFunc_ownG rfl (by omega) (gf := 45) (lb := #[.pointer (some ⟨w.heap.size + 1 + 1 + 1, 0, none⟩)]) rfl trivial (enters_of Try.func45 (by kernel_rfl) rfl)
    (Si.each_stops _ (by omega) (w.heap.size + 1 + 1 + 1) wT _ [] HR.out.homes hnil W0 hB0 b3) belowK_t (belowK_b (by omega)) (Below.refl _ _) (fun _ => rfl)
    (fun (pre : List (ByteArray × Int)) W => (∃ v, Boxed W (w.heap.size + 1) 22 v ∧ W.ownsRow w.heap.size 9 1 v (memsL k pre).length (strs (memsL k pre)) ∧ True) ∧ Below w.heap.size w W)
    (fun _ _ _ => False)
    (OwnFrom.and (Own.from (holdsRow_own w.heap.size (w.heap.size + 1) 22 9 1 (fun pre : List (ByteArray × Int) => (memsL k pre).length) (fun pre => strs (memsL k pre)) (fun _ _ => True)) _) (ownFrom_below (Nat.le_refl _) (by omega)))
    (fun _ _ _ _ _ hs _ _ => hs)
    ⟨⟨_, b1', World.ownsRow_nil _ _ _ _, trivial⟩, (HBT.out.trans (hB0.mono (by have := HBT.out.size; omega)))⟩
    (fun x => { tmps := #[.pointer none, .int .i64 k, undef, .pointer (some ⟨w.heap.size, 0, none⟩), .slice none 0 0, .pointer (some ⟨w.heap.size + 1, 0, none⟩), .string x.1, .int .i64 x.2, .pointer none, .pointer (some ⟨w.heap.size + 1 + 1, 0, none⟩), .pointer (some ⟨w.heap.size + 1 + 1, 0, none⟩), .pointer (some ⟨w.heap.size + 1 + 1, 2, none⟩), .pointer (some ⟨w.heap.size + 1 + 1, 2, none⟩), .func (.func 45) #[] #[.pointer (some ⟨w.heap.size + 1 + 1 + 1, 0, none⟩)], .string x.1, .int .i64 x.2, undef, undef, undef, undef, undef, undef, undef, undef], defers := [] }) ?assign ?body ?done ?stop
  case assign =>
    intro l x W K hK
    gi_wp2
    exact hK
  case body =>
    intro l pre x W _ hlt
    simp at hlt
  case done =>
    rintro D ys W hD rfl ⟨⟨v, hv, hrow, _⟩, hB⟩ hK
    have hc := hv.cell
    gi_wp2
    refine ⟨by simp, .inl ⟨_, _, rfl, run_takeDeferred hK, ?_⟩⟩
    exact ⟨_, results_tmp rfl _ _ _, v, rfl, ownsRow_putObj hrow _ hK rfl, hB.trans (belowK_b (w := w) (Nat.le_refl _) W D _ _ (by have := HBT.out.size; omega) hK rfl rfl)⟩
  case stop =>
    rintro D c pre W _ _ h _
    exact h.elim
set_option maxRecDepth 100000 in
set_option maxHeartbeats 2000000 in
theorem isins_some (w : World) (b : Nat) (n : Int) (I : List (ByteArray × Unit)) (M : List (ByteArray × Int)) (h : RosS w b n I M) (hn : I.length ≤ 1000) :
    Calls Try.prog 15 #[.pointer (some ⟨b, 0, none⟩)] w fun e w' => ∃ v, e = .returned v ∧ w'.ownsRow w.heap.size 9 1 v (keysL I).length (strs (keysL I)) ∧ Below w.heap.size w w' := by
  obtain ⟨i0, hi, hz0, hz1, hz2⟩ := info_parts infoS
  have hB1 : Below w.heap.size w w := Below.refl _ _
  have HT : Hid (Su.TabR w (some ⟨b, 1, none⟩) I) := (h.below hB1).isins
  have HB1 := Lib.hid hB1
  clear h hB1
  refine (callsIn_wide (n := 4)).1 ?_
  refine callsIn_of_wp_marks Try.func15 rfl trivial ?_ rfl
  simp only [Try.ntmps15, List.size_toArray, List.length_cons, List.length_nil, Nat.reduceAdd, Nat.reduceSub, Array.replicate_succ, Array.replicate_zero, List.push_toArray, List.append_toArray, List.nil_append, List.cons_append]
  gi_wp2_with (first
    | (refine ⟨trivial, ?_⟩; gi_at_call 32; refine (callsIn_wide.2 (orEmpty_some _ b)).mono ?_; rintro e w' ⟨rfl, rfl⟩)
    | (refine ⟨trivial, ?_⟩; gi_at_call 35; refine (callsIn_wide.2 (Su.each_any _ _)).mono ?_; rintro e w' ⟨rfl, rfl⟩))
  obtain ⟨wT, hwT⟩ : ∃ wT, wT = w := ⟨_, rfl⟩
  have hzT : wT.heap.size = w.heap.size := by rw [hwT]
  obtain ⟨W0, hW0⟩ : ∃ W0, W0 = (((w.alloc (.cells #[.slice none 0 0] 22))).alloc (.cells #[.pointer (some ⟨b, 1, none⟩)] 102)) := ⟨_, rfl⟩
  have b1 : Boxed W0 (w.heap.size) 22 (.slice none 0 0) := by
    rw [hW0]
    have := Boxed.new w 22 (.slice none 0 0)
    exact this.alloc _
  have b3 : W0.heap[w.heap.size + 1]? = some (.cells #[.pointer (some ⟨b, 1, none⟩)] 102 (0, 0)) := by
    have := block_new (w.alloc (.cells #[.slice none 0 0] 22)) (.cells #[.pointer (some ⟨b, 1, none⟩)] 102)
    rw [World.size_alloc] at this
    rw [hW0]; exact this
  have hB0 : Below wT.heap.size wT W0 := by
    rw [hW0, hwT]
    exact ((Below.refl _ _).alloc (Nat.le_refl _) _).alloc (by simp) _
  have hsz : w.heap.size + 1 < W0.heap.size := (Array.getElem?_eq_some_iff.1 b3).1
  have HT2 : Hid (Su.TabR wT (some ⟨b, 1, none⟩) I) := by rw [hwT]; exact HT
  have HBT : Hid (Below w.heap.size w wT) := by rw [hwT]; exact HB1
  rw [← hW0]
  clear hW0 hwT HT HB1
  refine wpIn_rangeFunc_ownG rfl (by omega) (gf := 48) (lb := #[.pointer (some ⟨w.heap.size + 1, 0, none⟩)]) rfl trivial (enters_of Try.func48 (by kernel_rfl) rfl)
    (Su.each_stops _ (by omega) (w.heap.size + 1) wT _ I HT2.out hn W0 hB0 b3) belowK_t (belowK_b (by omega)) (Below.refl _ _) (fun _ => rfl)
    (fun (pre : List (ByteArray × Unit)) W => (∃ v, Boxed W (w.heap.size) 22 v ∧ W.ownsRow wT.heap.size 9 1 v (keysL pre).length (strs (keysL pre)) ∧ True) ∧ Below wT.heap.size wT W)
    (fun _ _ _ => False)
    (OwnFrom.and (Own.from (holdsRow_own wT.heap.size (w.heap.size) 22 9 1 (fun pre : List (ByteArray × Unit) => (keysL pre).length) (fun pre => strs (keysL pre)) (fun _ _ => True)) _) (ownFrom_below (Nat.le_refl _) (by omega)))
    (fun _ _ _ _ _ hs _ _ => hs)
    ⟨⟨_, b1, World.ownsRow_nil _ _ _ _, trivial⟩, hB0⟩
    (fun x => { tmps := #[.pointer (some ⟨b, 0, none⟩), undef, .slice none 0 0, .pointer (some ⟨w.heap.size, 0, none⟩), .string x.1, .pointer (some ⟨b, 0, none⟩), .pointer (some ⟨b, 0, none⟩), .pointer (some ⟨b, 0, none⟩), .pointer (some ⟨b, 1, none⟩), .func (.func 48) #[] #[.pointer (some ⟨w.heap.size + 1, 0, none⟩)], .string x.1, .agg #[], undef, undef, undef, undef, undef], defers := [] }) ?assign ?body ?done ?stop
  case assign =>
    intro l x W K hK
    gi_wp2
    exact hK
  case body =>
    rintro l pre x W ⟨⟨v, hv, hrow, _⟩, hB⟩ hlt
    have hc := hv.cell
    have hln : (keysL pre).length ≤ 1000 := by have := keysL_len pre; omega
    have HB := Lib.hid hB
    have HV := Lib.hid hv
    have hsn := keysL_snoc pre x
    obtain ⟨ln, hlne⟩ : ∃ ln, ln = (keysL pre).length := ⟨_, rfl⟩
    rw [← hlne] at hrow hln
    have HLN := Lib.hid hlne
    have HROW := Lib.hid hrow
    have hz1' := hB.size
    have HSN := Lib.hid hsn
    clear hB hv hrow hlne hsn
    gi_wp2_with (gi_at_builtin; refine wpListIn_append_own _ rfl _ _ 22 rfl wT.heap.size 9 i0 (.string ByteArray.empty) 1 16 Try.underlying22 hi hz0 hz1 hz2 rfl (by decide) _ _ _ rfl (HROW.out.alloc _) ⟨W.heap.size, 0, none⟩ 1 1 [.string x.1] rfl rfl (World.news_of_block (cs := #[.string x.1]) (t := 9) (fr := (0, 0)) (heap_alloc_new W _)) (by simp [Value.oneCell']) (by unfold maxLen; omega) (by omega) (by simp; omega) ?_; intro v' w1 hown' hgrow _; obtain ⟨g', cap', rfl⟩ := ownsRow_succ hown'; obtain ⟨hv1, hv2, hr2, hk2, hb2⟩ := HV.out.appended (by decide) HROW.out hz1' (by omega) hown' hgrow; have hc1 := hv1.cell; have hf1 := hv1.frozen)
    refine ⟨hk2.from _, hb2, ⟨_, hv2, ?_, trivial⟩, HB.out.trans hb2⟩
    rw [HSN.out, List.length_append, ← HLN.out]
    simpa [strs] using hr2
  case done =>
    rintro D ys W hD rfl ⟨⟨v, hv, hrow, _⟩, hB⟩ hK
    have hc := hv.cell
    gi_wp2
    refine ⟨by simp, .inl ⟨_, _, rfl, run_takeDeferred hK, ?_⟩⟩
    exact ⟨_, results_tmp rfl _ _ _, v, rfl, ownsRow_putObj (own_base hrow (by omega)) _ hK rfl, (HBT.out.trans (hB.mono HBT.out.size)).trans (belowK_b (w := w) (Nat.le_refl _) W D _ _ (by omega) hK rfl rfl)⟩
  case stop =>
    rintro D c pre W _ _ h _
    exact h.elim
set_option maxRecDepth 100000 in
set_option maxHeartbeats 2000000 in
theorem isins_nil (w : World)  :
    Calls Try.prog 15 #[.pointer none] w fun e w' => ∃ v, e = .returned v ∧ w'.ownsRow w.heap.size 9 1 v (keysL []).length (strs (keysL [])) ∧ Below w.heap.size w w' := by
  obtain ⟨i0, hi, hz0, hz1, hz2⟩ := info_parts infoS
  refine (callsIn_wide (n := 4)).1 ?_
  refine callsIn_of_wp_marks Try.func15 rfl trivial ?_ rfl
  simp only [Try.ntmps15, List.size_toArray, List.length_cons, List.length_nil, Nat.reduceAdd, Nat.reduceSub, Array.replicate_succ, Array.replicate_zero, List.push_toArray, List.append_toArray, List.nil_append, List.cons_append]
  gi_wp2_with (first
    | (refine ⟨trivial, ?_⟩; gi_at_call 32; refine (callsIn_wide.2 (orEmpty_none _)).mono ?_; rintro e w' ⟨rfl, rfl⟩)
    | (refine ⟨trivial, ?_⟩; gi_at_call 35; refine (callsIn_wide.2 (Su.each_any _ _)).mono ?_; rintro e w' ⟨rfl, rfl⟩))
  obtain ⟨wT, hwT⟩ : ∃ wT, wT = ((w.alloc (.cells #[.slice none 0 0] 22))).alloc (.cells #[.int .i64 0, .slice none 0 0, .slice none 0 0] 77) := ⟨_, rfl⟩
  have hzT : wT.heap.size = w.heap.size + 1 + 1 := by rw [hwT]; simp
  have b1 : Boxed wT (w.heap.size) 22 (.slice none 0 0) := by
    rw [hwT]
    have := Boxed.new w 22 (.slice none 0 0)
    exact this.alloc _
  have HR : Hid (RosS wT (w.heap.size + 1) 0 [] []) := by
    show RosS wT (w.heap.size + 1) 0 [] []
    rw [hwT]
    have := RosS.new (w.alloc (.cells #[.slice none 0 0] 22)) (.cells #[.int .i64 0, .slice none 0 0, .slice none 0 0] 77) rfl
    rw [World.size_alloc] at this
    exact this
  have HBT : Hid (Below w.heap.size w wT) := by
    show Below w.heap.size w wT
    rw [hwT]
    exact ((Below.refl _ w).alloc (Nat.le_refl _) _).alloc (by simp) _
  obtain ⟨W0, hW0⟩ : ∃ W0, W0 = wT.alloc (.cells #[.pointer (some ⟨w.heap.size + 1, 1, none⟩)] 102) := ⟨_, rfl⟩
  have b1' : Boxed W0 (w.heap.size) 22 (.slice none 0 0) := by rw [hW0]; exact b1.alloc _
  have b3 : W0.heap[w.heap.size + 1 + 1]? = some (.cells #[.pointer (some ⟨w.heap.size + 1, 1, none⟩)] 102 (0, 0)) := by
    rw [hW0, ← hzT]; exact block_new _ _
  have hB0 : Below wT.heap.size wT W0 := by
    rw [hW0]
    exact (Below.refl _ wT).alloc (Nat.le_refl _) _
  have hsz : w.heap.size + 1 + 1 < W0.heap.size := (Array.getElem?_eq_some_iff.1 b3).1
  have hnil : ([] : List (ByteArray × Unit)).length ≤ 1000 := by simp
  rw [← hwT, ← hW0]
  clear hW0 hwT b1
  refine wpIn_rangeFunc_ownG rfl (by omega) (gf := 48) (lb := #[.pointer (some ⟨w.heap.size + 1 + 1, 0, none⟩)]) rfl trivial (enters_of Try.func48 (by kernel_rfl) rfl)
    (Su.each_stops _ (by omega) (w.heap.size + 1 + 1) wT _ [] HR.out.isins hnil W0 hB0 b3) belowK_t (belowK_b (by omega)) (Below.refl _ _) (fun _ => rfl)
    (fun (pre : List (ByteArray × Unit)) W => (∃ v, Boxed W (w.heap.size) 22 v ∧ W.ownsRow w.heap.size 9 1 v (keysL pre).length (strs (keysL pre)) ∧ True) ∧ Below w.heap.size w W)
    (fun _ _ _ => False)
    (OwnFrom.and (Own.from (holdsRow_own w.heap.size (w.heap.size) 22 9 1 (fun pre : List (ByteArray × Unit) => (keysL pre).length) (fun pre => strs (keysL pre)) (fun _ _ => True)) _) (ownFrom_below (Nat.le_refl _) (by omega)))
    (fun _ _ _ _ _ hs _ _ => hs)
    ⟨⟨_, b1', World.ownsRow_nil _ _ _ _, trivial⟩, (HBT.out.trans (hB0.mono (by have := HBT.out.size; omega)))⟩
    (fun x => { tmps := #[.pointer none, undef, .slice none 0 0, .pointer (some ⟨w.heap.size, 0, none⟩), .string x.1, .pointer none, .pointer (some ⟨w.heap.size + 1, 0, none⟩), .pointer (some ⟨w.heap.size + 1, 0, none⟩), .pointer (some ⟨w.heap.size + 1, 1, none⟩), .func (.func 48) #[] #[.pointer (some ⟨w.heap.size + 1 + 1, 0, none⟩)], .string x.1, .agg #[], undef, undef, undef, undef, undef], defers := [] }) ?assign ?body ?done ?stop
  case assign =>
    intro l x W K hK
    gi_wp2
    exact hK
  case body =>
    intro l pre x W _ hlt
    simp at hlt
  case done =>
    rintro D ys W hD rfl ⟨⟨v, hv, hrow, _⟩, hB⟩ hK
    have hc := hv.cell
    gi_wp2
    refine ⟨by simp, .inl ⟨_, _, rfl, run_takeDeferred hK, ?_⟩⟩
    exact ⟨_, results_tmp rfl _ _ _, v, rfl, ownsRow_putObj hrow _ hK rfl, hB.trans (belowK_b (w := w) (Nat.le_refl _) W D _ _ (by have := HBT.out.size; omega) hK rfl rfl)⟩
  case stop =>
    rintro D c pre W _ _ h _
    exact h.elim
theorem members_any (w : World) (p : Option Addr) (n : Int) (I : List (ByteArray × Unit)) (M : List (ByteArray × Int)) (k : Int) (h : RosR w p n I M) (hn : M.length ≤ 1000) :
    Calls Try.prog 14 #[.pointer p, .int .i64 k] w fun e w' => ∃ v, e = .returned v ∧ w'.ownsRow w.heap.size 9 1 v (memsL k M).length (strs (memsL k M)) ∧ Below w.heap.size w w' := by
  rcases h with ⟨rfl, rfl, rfl, rfl⟩ | ⟨b, rfl, h⟩
  · exact members_nil w k
  · exact members_some w b n I M k h hn
theorem isins_any (w : World) (p : Option Addr) (n : Int) (I : List (ByteArray × Unit)) (M : List (ByteArray × Int)) (h : RosR w p n I M) (hn : I.length ≤ 1000) :
    Calls Try.prog 15 #[.pointer p] w fun e w' => ∃ v, e = .returned v ∧ w'.ownsRow w.heap.size 9 1 v (keysL I).length (strs (keysL I)) ∧ Below w.heap.size w w' := by
  rcases h with ⟨rfl, rfl, rfl, rfl⟩ | ⟨b, rfl, h⟩
  · exact isins_nil w
  · exact isins_some w b n I M h hn
end Go.Proofs.Ytkoihpfgleboiaa.Ro
