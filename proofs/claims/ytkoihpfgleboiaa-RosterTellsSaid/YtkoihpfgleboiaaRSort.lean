/-
  The contract of the reference's Sorted: names that are not there twice, rising. Conditions: at most a thousand names, none twice.
-/
import Derived.Test.YtkoihpfgleboiaaRTell
import Derived.Test.YtkoihpfgleboiaaRMath
import Derived.Laws.MakeOwn
import Derived.Deep.AppendLies
namespace Go.Proofs.Ytkoihpfgleboiaa.Ro
open Go.RowKit Tb

theorem strs_append (a b : List ByteArray) : strs (a ++ b) = strs a ++ strs b := by simp [strs]
theorem strs_len (a : List ByteArray) : (strs a).length = a.length := by simp [strs]
theorem strs_one (L : List ByteArray) : ∀ v ∈ strs L, v.oneCell' = true := fun v hv => by
  obtain ⟨s, _, rfl⟩ := List.mem_map.1 hv
  rfl
theorem keysL_take (M : List (ByteArray × Unit)) (n : Nat) : keysL (M.take n) = (keysL M).take n := by simp [keysL, List.map_take]
theorem keysL_drop (M : List (ByteArray × Unit)) (n : Nat) : keysL (M.drop n) = (keysL M).drop n := by simp [keysL, List.map_drop]
theorem isL_lenD {ss : List ByteArray} (hd : ∀ i s, ss[i]? = some s → hasB (isL (ss.take i)) s = false) : ∀ i, i ≤ ss.length → (isL (ss.take i)).length = i
  | 0, _ => rfl
  | i + 1, hi => by
    have hs : ss[i]? = some ss[i] := List.getElem?_eq_getElem (by omega)
    rw [isL_step hs, Su.putL_not _ _ _ (hd i _ hs)]
    have := isL_lenD hd i (by omega)
    have := pl_le (isL (ss.take i)) ss[i]
    simp; omega
theorem keys_put {ss : List ByteArray} {i : Nat} {s : ByteArray} (hs : ss[i]? = some s) (hd : hasB (isL (ss.take i)) s = false) : keysL (isL (ss.take (i + 1))) = (keysL (isL (ss.take i))).take (pl (isL (ss.take i)) s) ++ s :: (keysL (isL (ss.take i))).drop (pl (isL (ss.take i)) s) := by
  rw [isL_step hs, Su.putL_not _ _ _ hd]
  simp [keysL, List.map_take, List.map_drop]
theorem sapp_nil (W : World) (ty : TypeId) (g n c : Nat) (hn : n ≤ c) : (Builtin.append_ #[22, 22] ty #[.slice (some ⟨g, 0, none⟩) n c, .slice none 0 0]).run Try.prog W = .ok (.slice (some ⟨g, 0, none⟩) n c) W := by
  obtain ⟨i, hi, _, hs, _⟩ := info_parts infoS
  simp [Builtin.append_, run_underlying Try.underlying22, sizeOf, typeInfo, hi, Builtin.lenOf, Builtin.firstCells, hn, storeCells]
theorem sslice_some (g n cap a : Nat) (h : a ≤ n) (hc : n ≤ cap) : ∃ o, (a < n → o = a) ∧ ∀ W : World, (Instr.slice 22 (.slice (some ⟨g, 0, none⟩) n cap) (some (.int .i64 (a : Int))) none none).run Try.prog W = .ok (.slice (some ⟨g, o, none⟩) (n - a) (cap - a)) W := by
  have h2 : (a : Int) ≤ (n : Int) := by omega
  have h3 : (n : Int) ≤ (cap : Int) := by omega
  by_cases hcc : cap = a
  · subst hcc
    refine ⟨0, fun h => by omega, fun W => ?_⟩
    simp [Instr.slice, Instr.sliceBounds, Instr.sliceBound, asIntOf, run_underlying Try.underlying22, h, hc]
  · refine ⟨a, fun _ => rfl, fun W => ?_⟩
    simp [Instr.slice, Instr.sliceBounds, Instr.sliceBound, asIntOf, run_underlying Try.underlying22, h, hcc]
    unfold Addr.add
    split <;> simp_all
theorem sort_kept {w w1 w2 w3 : World} {n sz : Nat} {v : Value} {xs : List Value} {o1 o2 : Obj} {e : TypeId} {row : Nat} (h1 : Below w.heap.size w w1) (h2 : (w1.alloc o1).grownBy w2 (some row)) (hr : w1.heap.size ≤ row) (ho : w2.ownsRow w1.heap.size e sz v n xs) (h3 : (w2.alloc o2).grownBy w3 v.ownBlock) : Below w.heap.size w w3 := by
  have z1 := h1.size
  have z2 := h2.size
  simp at z2
  exact (((h1.alloc z1 _).grown h2 (by simp; omega) (fun k e => by cases e; omega)).alloc (by omega) _).grown h3 (by simp; omega) (fun k e => by have := (ho.lt k e).1; omega)
theorem sort_kept2 {w w1 w2 : World} {o1 : Obj} {row : Nat} (h1 : Below w.heap.size w w1) (h2 : (w1.alloc o1).grownBy w2 (some row)) (hr : w1.heap.size ≤ row) : Below w.heap.size w w2 := by
  have z1 := h1.size
  exact (h1.alloc z1 _).grown h2 (by simp; omega) (fun k e => by cases e; omega)
theorem sort_fin {w4 : World} {B base j i : Nat} {v : Value} {K K' : List ByteArray} {s : ByteArray} {d : Nat} (ho : w4.ownsRow base 9 1 v (j + 1 + d) (strs (K.take j) ++ [.string s] ++ strs (K.drop j))) (hb : B ≤ base) (hj : j + 1 + d = i + 1) (hK : K' = K.take j ++ s :: K.drop j) : w4.ownsRow B 9 1 v (i + 1) (strs K') := by
  rw [hj] at ho
  have e : strs K' = strs (K.take j) ++ [.string s] ++ strs (K.drop j) := by rw [hK]; simp [strs]
  rw [e]
  exact own_base ho hb
theorem sown_cap {base : Nat} {w : World} {e : TypeId} {size n g cap : Nat} {xs : List Value} (h : w.ownsRow base e size (.slice (some ⟨g, 0, none⟩) n cap) n xs) : n ≤ cap := by
  rcases h.2 with ⟨h, _⟩ | ⟨g', cap', cur, h', _, _, h1, h2, _⟩
  · simp at h
  · simp only [Value.slice.injEq] at h'
    obtain ⟨_, _, rfl⟩ := h'
    exact h1
set_option maxRecDepth 100000 in
set_option maxHeartbeats 4000000 in
theorem sorted_any (w : World) (A : Option Addr) (c : Nat) (ss : List ByteArray) (h : SRd w A ss) (hn : ss.length ≤ 1000) (hd : ∀ i s, ss[i]? = some s → hasB (isL (ss.take i)) s = false) :
    Calls Try.prog 18 #[.slice A ss.length c] w fun e w' => ∃ v, e = .returned v ∧ w'.ownsRow w.heap.size 9 1 v ss.length (strs (keysL (isL ss))) ∧ Below w.heap.size w w' := by
  obtain ⟨i0, hi, hz0, hz1, hz2⟩ := info_parts infoS
  have HA := Lib.hid h
  have HD := Lib.hid hd
  have HLEN : Hid (∀ i, i ≤ ss.length → (isL (ss.take i)).length = i) := isL_lenD hd
  clear h hd
  go_enter Try.func18, Try.ntmps18
  go_wp2
  go_loopg [4, 3] ss.length (fun (gh : Nat) si sv wx => ∃ i : Nat, gh = ss.length - i ∧ i ≤ ss.length ∧ si = .int .i64 (i : Int) ∧ Hid (wx.ownsRow w.heap.size 9 1 sv i (strs (keysL (isL (ss.take i)))) ∧ Below w.heap.size w wx))
  case atStart => exact ⟨0, rfl, Nat.zero_le _, rfl, World.ownsRow_nil _ _ _ _, Below.refl _ _⟩
  case round =>
    obtain ⟨i, rfl, him, rfl, hinv⟩ := hrel
    obtain ⟨v, hv⟩ : ∃ v, u3 = v := ⟨_, rfl⟩
    subst hv
    obtain ⟨W1, hW1⟩ : ∃ W1, W1 = wr := ⟨_, rfl⟩
    subst hW1
    have HR := Lib.hid hinv.out.1
    have HB := Lib.hid hinv.out.2
    clear hinv
    by_cases hlti : i < ss.length
    · obtain ⟨s, hs⟩ : ∃ s, ss[i]? = some s := ⟨_, List.getElem?_eq_getElem hlti⟩
      rcases HA.out with h0 | ⟨g2, o2, rfl, hg2, hcell⟩
      · rw [h0] at hs; simp at hs
      have c0 := (HB.out.cell (p := ⟨g2, o2 + i, none⟩) hg2).trans (hcell i s hs)
      have t1 : (i : Int) < (ss.length : Int) := by omega
      have t2 : (0 : Int) ≤ (i : Int) := by omega
      have HKP := Lib.hid (keys_put hs (HD.out i s hs))
      have hML := HLEN.out i him
      have hpl := pl_le (isL (ss.take i)) s
      have hif : ∀ j t, (keysL (isL (ss.take i)))[j]? = some t → Op.bytesLess t.toList s.toList = decide (j < pl (isL (ss.take i)) s) := fun j t ht => by
        unfold keysL at ht
        rw [List.getElem?_map] at ht
        cases hr : (isL (ss.take i))[j]? with
        | none => rw [hr] at ht; cases ht
        | some r =>
          rw [hr] at ht
          simp only [Option.map_some, Option.some.injEq] at ht
          subst ht
          have := pl_iff (isL (ss.take i)) s (isL_asc _) j r hr
          by_cases hj : j < pl (isL (ss.take i)) s
          · rw [decide_eq_true hj]; exact this.2 hj
          · rw [decide_eq_false hj]
            cases hc : Op.bytesLess r.1.toList s.toList
            · rfl
            · exact absurd (this.1 hc) hj
      have HKL : Hid ((keysL (isL (ss.take i))).length = i) := by show _ = _; rw [keysL_len, hML]
      have HIF := Lib.hid hif
      rw [hML] at hpl
      obtain ⟨p, hp⟩ : ∃ p, p = pl (isL (ss.take i)) s := ⟨_, rfl⟩
      rw [← hp] at HKP HIF hpl
      obtain ⟨K, hK⟩ : ∃ K, K = keysL (isL (ss.take i)) := ⟨_, rfl⟩
      rw [← hK] at HKP HIF HR HKL
      have HC0 := Lib.hid c0
      clear hp hK hif hML hcell hs
      rcases Go.Joins.ownsRow_forms HR.out with ⟨rfl, h0⟩ | ⟨g, cap, rfl⟩
      · subst h0
        obtain rfl : p = 0 := by omega
        have hK0 : K = [] := List.length_eq_zero_iff.1 HKL.out
        subst hK0
        clear hpl HIF
        go_wp2
        refine wp_loop_rounds 1 ?_
        rw [rounds_succ]
        go_wp2_with fail
        go_quiet (fail)
        obtain ⟨w1, hw1⟩ : ∃ w1, w1 = W1.drewN nq := ⟨_, rfl⟩
        have K1 : Hid (Below W1.heap.size W1 w1) := by rw [hw1]; exact below_drewN (Below.refl _ _) _
        rw [← hw1]
        clear hw1 c0
        have z1 := K1.out.size
        go_wp2_with (first
          | (at_builtin; refine Lib.wpList_append_run _ rfl _ _ 22 22 rfl _ _ rfl rfl _ _ (sapp_nil _ _ g3 1 cp3 h3.out) ?_)
          | (at_builtin; refine wpList_append_own _ rfl _ _ 22 rfl w1.heap.size 9 i0 _ 1 16 Try.underlying22 hi hz0 hz1 hz2 rfl (by decide) _ _ _ rfl (O2.out.alloc _) ⟨w2.heap.size, 0, none⟩ 1 1 [.string s] rfl rfl (one_new _ _ _) (strs_one [s]) (by unfold maxLen; omega) (by omega) (by (try simp); (try omega)) ?_; intro v3 w3 hown3 hg3 hnil3; obtain ⟨g3, cp3, rfl⟩ := (Go.Joins.ownsRow_forms hown3).resolve_left (fun h => absurd (hnil3.1 h.1).1 (by intro hh; cases hh)); have O3 := Lib.hid hown3; have h3 : Hid (1 ≤ cp3) := sown_cap hown3; have K3 := Lib.hid ((B2.out.alloc z2 _).grown hg3 (by simp; omega) (fun x e => by cases e; omega)); clear hown3 hg3 hnil3)
          | (at_builtin; refine Lib.wpList_append_run _ rfl _ _ 22 22 rfl _ _ rfl rfl _ _ (sapp_nil _ _ w1.heap.size 0 0 (Nat.le_refl _)) ?_; obtain ⟨w2, hw2⟩ : ∃ w2, w2 = w1.alloc (.cells #[] 9) := ⟨_, rfl⟩; have O2 := Lib.hid (World.ownsRow_made (size := 1) (e := 9) w1 #[] 0 (Nat.le_refl _) (Nat.zero_le _) rfl); have B2 := Lib.hid (K1.out.alloc z1 (.cells #[] 9)); have z2 : W1.heap.size ≤ (w1.alloc (.cells #[] 9)).heap.size ∧ w1.heap.size ≤ (w1.alloc (.cells #[] 9)).heap.size := by simp; omega
             rw [← hw2] at O2 B2 z2; rw [← hw2]; obtain ⟨z2, y2⟩ := z2; clear hw2; have c2 := (B2.out.cell (p := ⟨g2, o2 + 0, none⟩) (Nat.lt_of_lt_of_le hg2 HB.out.size)).trans HC0.out; have c3 := c2; rw [Nat.add_zero] at c3))
        have FIN : Hid (w3.ownsRow w.heap.size 9 1 (.slice (some ⟨g3, 0, none⟩) 1 cp3) 1 (strs (keysL (isL (ss.take (0 + 1)))))) := by
          show World.ownsRow _ _ _ _ _ _ _
          rw [HKP.out]
          exact own_base O3.out (Nat.le_trans HB.out.size z1)
        go_roundg (ss.length - (0 + 1))
        case measure => omega
        case rel => exact ⟨0 + 1, rfl, by omega, by go_num, FIN.out, HB.out.trans (K3.out.mono HB.out.size)⟩
      · have HC : Hid (∀ j t, K[j]? = some t → W1.cell? ⟨g, j, none⟩ = some (.string t)) := fun j t ht => by
          have hj := (List.getElem?_eq_some_iff.1 ht).1
          rw [HKL.out] at hj
          refine (HR.out.cellAt j (by omega)).trans ?_
          simp [strs, ht]
        have hgw := (HR.out.lt g rfl).2
        have hcap : i ≤ cap := by
          rcases HR.out.2 with ⟨h, _⟩ | ⟨g', cap', cur, h', _, _, h1, h2, _⟩
          · simp at h
          · simp only [Value.slice.injEq] at h'
            obtain ⟨_, _, rfl⟩ := h'
            exact h1
        obtain ⟨o, ho, hsl⟩ := sslice_some g i cap p hpl hcap
        have h3 : (p : Int) ≤ (cap : Int) := by omega
        go_wp2
        go_loopg [5] i (fun (gh : Nat) sj wx => ∃ j : Nat, gh = i - j ∧ j ≤ p ∧ sj = .int .i64 (j : Int) ∧ Hid (Below W1.heap.size W1 wx))
        case atStart => exact ⟨0, rfl, Nat.zero_le _, rfl, Below.refl _ _⟩
        case round =>
          obtain ⟨j, rfl, hj, rfl, hinv⟩ := hrel
          have d2 := (hinv.out.cell (p := ⟨g2, o2 + i, none⟩) (Nat.lt_of_lt_of_le hg2 HB.out.size)).trans c0
          have HBK := Lib.hid hinv.out
          clear hinv c0
          by_cases hji : j < i
          · obtain ⟨t, ht⟩ : ∃ t, K[j]? = some t := ⟨_, List.getElem?_eq_getElem (by rw [HKL.out]; omega)⟩
            have d1 := (HBK.out.cell (p := ⟨g, j, none⟩) hgw).trans (HC.out j t ht)
            have e1 := HIF.out j t ht
            have t3 : (j : Int) < (i : Int) := by omega
            have t4 : (0 : Int) ≤ (j : Int) := by omega
            clear ht
            by_cases hjp : j < p
            · rw [decide_eq_true hjp] at e1
              go_wp2_with fail
              go_quiet (fail)
              go_wp2
              go_roundg (i - (j + 1))
              case measure => omega
              case rel => exact ⟨j + 1, rfl, by omega, by go_num, below_drewN HBK.out _⟩
            · rw [decide_eq_false hjp] at e1
              obtain rfl : j = p := by omega
              go_wp2_with fail
              go_quiet (fail)
              obtain ⟨w1, hw1⟩ : ∃ w1, w1 = wr.drewN nq := ⟨_, rfl⟩
              have K1 : Hid (Below W1.heap.size W1 w1) := by rw [hw1]; exact below_drewN HBK.out _
              rw [← hw1]
              clear hw1 d2 HBK
              have z1 := K1.out.size
              have HTK : Hid ((strs (K.take j)).length = j * 1) := by show _ = _; rw [strs_len, List.length_take, HKL.out]; omega
              have HDK : Hid ((strs (K.drop j)).length = (i - j) * 1) := by show _ = _; rw [strs_len, List.length_drop, HKL.out]; omega
              have HC1 : Hid (∀ W : World, Below W1.heap.size W1 W → ∀ q u, (strs (K.take j))[q]? = some u → W.cell? ⟨g, q, none⟩ = some u) := fun W hW q u hu => by
                unfold strs at hu
                rw [List.getElem?_map] at hu
                cases hr : (K.take j)[q]? with
                | none => rw [hr] at hu; cases hu
                | some t =>
                  rw [hr] at hu
                  simp only [Option.map_some, Option.some.injEq] at hu
                  rw [← hu]
                  refine (hW.cell (p := ⟨g, q, none⟩) hgw).trans (HC.out q t ?_)
                  rw [List.getElem?_take] at hr
                  split at hr
                  · exact hr
                  · cases hr
              have HC2 : Hid (∀ W : World, Below W1.heap.size W1 W → ∀ q u, (strs (K.drop j))[q]? = some u → W.cell? ⟨g, j + q, none⟩ = some u) := fun W hW q u hu => by
                unfold strs at hu
                rw [List.getElem?_map] at hu
                cases hr : (K.drop j)[q]? with
                | none => rw [hr] at hu; cases hu
                | some t =>
                  rw [hr] at hu
                  simp only [Option.map_some, Option.some.injEq] at hu
                  rw [← hu]
                  have hq := (List.getElem?_eq_some_iff.1 hr).1
                  rw [List.length_drop, HKL.out] at hq
                  refine (hW.cell (p := ⟨g, j + q, none⟩) hgw).trans (HC.out (j + q) t ?_)
                  rw [List.getElem?_drop] at hr
                  exact hr
              go_wp2_with (first
                | (at_builtin; refine wpList_append_own _ rfl _ _ 22 rfl w1.heap.size 9 i0 _ 1 16 Try.underlying22 hi hz0 hz1 hz2 rfl (by decide) _ _ _ rfl O3.out ⟨g, j, none⟩ (i - j) (cap - j) (strs (K.drop j)) rfl HDK.out (fun q u hu => by rw [Addr.add_lit]; exact HC2.out _ K3.out q u hu) (strs_one _) (by unfold maxLen; omega) (by omega) (by have := K3.out.size; have h2 := z2; have h3 := z3; (try simp at h2); (try simp at h3); omega) ?_; intro v4 w4 hown4 hg4 hnil4; have FIN := Lib.hid (sort_fin (i := i) (d := (i - j)) hown4 (Nat.le_trans HB.out.size z1) (by omega) HKP.out); have K4 := Lib.hid (K3.out.grown hg4 K3.out.size (fun x e => by have := (O3.out.lt x e).1; omega)); clear hown4 hg4 hnil4)
                | (at_builtin; refine wpList_append_own _ rfl _ _ 22 rfl w1.heap.size 9 i0 _ 1 16 Try.underlying22 hi hz0 hz1 hz2 rfl (by decide) _ _ _ rfl (O2.out.alloc _) ⟨w2.heap.size, 0, none⟩ 1 1 [.string s] rfl rfl (one_new _ _ _) (strs_one [s]) (by unfold maxLen; omega) (by omega) (by have h2 := z2; (try simp at h2); (try simp); omega) ?_; intro v3 w3 hown3 hg3 hnil3; obtain ⟨g3, cp3, rfl⟩ := (Go.Joins.ownsRow_forms hown3).resolve_left (fun h => absurd (hnil3.1 h.1).1 (by intro hh; cases hh)); have O3 := Lib.hid hown3; have G3 := Lib.hid hg3; clear hown3 hg3 hnil3; have z3 := G3.out.size; have K3 := Lib.hid (sort_kept K1.out G2.out (Nat.le_refl _) O2.out G3.out))
                | (at_builtin; refine wpList_append_own _ rfl _ _ 22 rfl w1.heap.size 9 i0 _ 1 16 Try.underlying22 hi hz0 hz1 hz2 rfl (by decide) _ _ _ rfl (World.ownsRow_made w1 #[] 0 (Nat.le_refl _) (Nat.zero_le _) rfl) ⟨g, 0, none⟩ j cap (strs (K.take j)) rfl HTK.out (fun q u hu => by rw [Addr.add_lit, Nat.zero_add]; exact HC1.out _ (K1.out.alloc z1 _) q u hu) (strs_one _) (by unfold maxLen; omega) (by omega) (by (try simp); (try omega)) ?_; intro v2 w2 hown2 hgr2 hnil2; rw [Nat.zero_add, List.nil_append] at hown2; obtain ⟨gn, cp2, rfl⟩ := (Go.Joins.ownsRow_forms hown2).resolve_left (fun h => absurd (hnil2.1 h.1).1 (by intro hh; cases hh)); have O2 := Lib.hid hown2; have G2 := Lib.hid hgr2; clear hown2 hgr2 hnil2; have z2 := G2.out.size; have K2 := Lib.hid (sort_kept2 K1.out G2.out (Nat.le_refl _)); have c2 := (K2.out.cell (p := ⟨g2, o2 + i, none⟩) (Nat.lt_of_lt_of_le hg2 HB.out.size)).trans HC0.out))
              go_roundg (ss.length - (i + 1))
              case measure => omega
              case rel => exact ⟨i + 1, rfl, by omega, by go_num, FIN.out, HB.out.trans (K4.out.mono HB.out.size)⟩
          · obtain rfl : j = i := by omega
            obtain rfl : j = p := by omega
            go_wp2_with fail
            go_quiet (fail)
            obtain ⟨w1, hw1⟩ : ∃ w1, w1 = wr.drewN nq := ⟨_, rfl⟩
            have K1 : Hid (Below W1.heap.size W1 w1) := by rw [hw1]; exact below_drewN HBK.out _
            rw [← hw1]
            clear hw1 d2 HBK
            have z1 := K1.out.size
            have HTK : Hid ((strs (K.take j)).length = j * 1) := by show _ = _; rw [strs_len, List.length_take, HKL.out]; omega
            have HDK : Hid ((strs (K.drop j)).length = 0 * 1) := by show _ = _; rw [strs_len, List.length_drop, HKL.out]; omega
            have HC1 : Hid (∀ W : World, Below W1.heap.size W1 W → ∀ q u, (strs (K.take j))[q]? = some u → W.cell? ⟨g, q, none⟩ = some u) := fun W hW q u hu => by
              unfold strs at hu
              rw [List.getElem?_map] at hu
              cases hr : (K.take j)[q]? with
              | none => rw [hr] at hu; cases hu
              | some t =>
                rw [hr] at hu
                simp only [Option.map_some, Option.some.injEq] at hu
                rw [← hu]
                refine (hW.cell (p := ⟨g, q, none⟩) hgw).trans (HC.out q t ?_)
                rw [List.getElem?_take] at hr
                split at hr
                · exact hr
                · cases hr
            have HC2 : Hid (∀ W : World, Below W1.heap.size W1 W → ∀ q u, (strs (K.drop j))[q]? = some u → W.cell? ⟨g, o + q, none⟩ = some u) := fun W hW q u hu => by
              have := (List.getElem?_eq_some_iff.1 hu).1
              rw [HDK.out] at this
              omega
            go_wp2_with (first
              | (at_builtin; refine wpList_append_own _ rfl _ _ 22 rfl w1.heap.size 9 i0 _ 1 16 Try.underlying22 hi hz0 hz1 hz2 rfl (by decide) _ _ _ rfl O3.out ⟨g, o, none⟩ 0 (cap - j) (strs (K.drop j)) rfl HDK.out (fun q u hu => by rw [Addr.add_lit]; exact HC2.out _ K3.out q u hu) (strs_one _) (by unfold maxLen; omega) (by omega) (by have := K3.out.size; have h2 := z2; have h3 := z3; (try simp at h2); (try simp at h3); omega) ?_; intro v4 w4 hown4 hg4 hnil4; have FIN := Lib.hid (sort_fin (i := j) (d := 0) hown4 (Nat.le_trans HB.out.size z1) (by omega) HKP.out); have K4 := Lib.hid (K3.out.grown hg4 K3.out.size (fun x e => by have := (O3.out.lt x e).1; omega)); clear hown4 hg4 hnil4)
              | (at_builtin; refine wpList_append_own _ rfl _ _ 22 rfl w1.heap.size 9 i0 _ 1 16 Try.underlying22 hi hz0 hz1 hz2 rfl (by decide) _ _ _ rfl (O2.out.alloc _) ⟨w2.heap.size, 0, none⟩ 1 1 [.string s] rfl rfl (one_new _ _ _) (strs_one [s]) (by unfold maxLen; omega) (by omega) (by have h2 := z2; (try simp at h2); (try simp); omega) ?_; intro v3 w3 hown3 hg3 hnil3; obtain ⟨g3, cp3, rfl⟩ := (Go.Joins.ownsRow_forms hown3).resolve_left (fun h => absurd (hnil3.1 h.1).1 (by intro hh; cases hh)); have O3 := Lib.hid hown3; have G3 := Lib.hid hg3; clear hown3 hg3 hnil3; have z3 := G3.out.size; have K3 := Lib.hid (sort_kept K1.out G2.out (Nat.le_refl _) O2.out G3.out))
              | (at_builtin; refine wpList_append_own _ rfl _ _ 22 rfl w1.heap.size 9 i0 _ 1 16 Try.underlying22 hi hz0 hz1 hz2 rfl (by decide) _ _ _ rfl (World.ownsRow_made w1 #[] 0 (Nat.le_refl _) (Nat.zero_le _) rfl) ⟨g, 0, none⟩ j cap (strs (K.take j)) rfl HTK.out (fun q u hu => by rw [Addr.add_lit, Nat.zero_add]; exact HC1.out _ (K1.out.alloc z1 _) q u hu) (strs_one _) (by unfold maxLen; omega) (by omega) (by (try simp); (try omega)) ?_; intro v2 w2 hown2 hgr2 hnil2; rw [Nat.zero_add, List.nil_append] at hown2; obtain ⟨gn, cp2, rfl⟩ := (Go.Joins.ownsRow_forms hown2).resolve_left (fun h => absurd (hnil2.1 h.1).1 (by intro hh; cases hh)); have O2 := Lib.hid hown2; have G2 := Lib.hid hgr2; clear hown2 hgr2 hnil2; have z2 := G2.out.size; have K2 := Lib.hid (sort_kept2 K1.out G2.out (Nat.le_refl _)); have c2 := (K2.out.cell (p := ⟨g2, o2 + j, none⟩) (Nat.lt_of_lt_of_le hg2 HB.out.size)).trans HC0.out))
            go_roundg (ss.length - (j + 1))
            case measure => omega
            case rel => exact ⟨j + 1, rfl, by omega, by go_num, FIN.out, HB.out.trans (K4.out.mono HB.out.size)⟩
    · obtain rfl : i = ss.length := by omega
      rw [List.take_length] at HR
      clear HA HD HLEN
      go_wp2
      go_ret
      exact ⟨_, rfl, HR.out, HB.out⟩
end Go.Proofs.Ytkoihpfgleboiaa.Ro
