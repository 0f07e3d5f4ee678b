/-
  The law TableMerges answers true: its walk. Conditions: both slices that came in, read up to their fiftieth rows.
-/
import Derived.Test.YtflhpijcfiamgaaTRmrg
import Derived.Test.YtflhpijcfiamgaaTMrgIi
import Derived.Test.YtflhpijcfiamgaaTKnown
namespace Go.Proofs.Ytflhpijcfiamgaa.Tb
open Go.RowKit
open Ii (cells cells_len cells_get cells_one cells_append cells_cons cells_inv getL)

theorem has_of_mem (l : List (Int × Int)) (hl : asc l) (r : Int × Int) (h : r ∈ l) : hasB l r.1 = true := by
  obtain ⟨i, hi, e⟩ := List.mem_iff_getElem.1 h
  have h1 : l[i]? = some r := by rw [List.getElem?_eq_getElem hi, e]
  have hp : i = pl l r.1 := pl_eq l r.1 i (by omega) (fun j hj s hs => by
    have hjl := (List.getElem?_eq_some_iff.1 hs).1
    have := List.pairwise_iff_getElem.1 hl j i hjl hi hj
    rw [e] at this
    rwa [(List.getElem?_eq_some_iff.1 hs).2] at this) (fun s hs => by rw [h1] at hs; cases hs; exact Ky.irr _)
  unfold hasB
  rw [← hp, h1]
  simp
theorem look_has (l : List (Int × Int)) (hl : asc l) (k : Int) : look l k = if hasB l k = true then some (getL l k) else none := by
  by_cases h : hasB l k = true
  · rw [if_pos h]
    exact look_mem l hl (k, getL l k) (List.mem_of_getElem? (Ii.getL_has l k h))
  · rw [if_neg h, look_none]
    intro r hr e
    exact h (by rw [← e]; exact has_of_mem l hl r hr)
theorem kv_asc (l : List (Int × Int)) (hl : asc l) (k : Int) : kv l k = (look l k).toList := by
  induction l with
  | nil => rfl
  | cons r l ih =>
    have hl' := List.pairwise_cons.1 hl
    have e : kv (r :: l) k = kv [r] k ++ kv l k := kv_append [r] l k
    rw [e, kv_one, look_cons]
    by_cases h : r.1 = k
    · rw [if_pos h, if_pos h, kv_none]
      · rfl
      · intro s hs e
        have := hl'.1 s hs
        rw [e, h, Ky.irr] at this
        cases this
    · rw [if_neg h, if_neg h, ih hl'.2, List.nil_append]
theorem kv_mrow (la lb : List (Int × Int)) (k : Int) : kv (lb.map (mrow la)) k = (kv lb k).map fun y => if hasB la k = true then ten (getL la k) y else y := by
  induction lb with
  | nil => rfl
  | cons r lb ih =>
    have e1 : kv ((r :: lb).map (mrow la)) k = kv [mrow la r] k ++ kv (lb.map (mrow la)) k := kv_append [mrow la r] _ k
    have e2 : kv (r :: lb) k = kv [r] k ++ kv lb k := kv_append [r] lb k
    rw [e1, e2, kv_one, kv_one, ih, List.map_append]
    congr 1
    show (if r.1 = k then _ else _) = _
    by_cases h : r.1 = k
    · rw [if_pos h, if_pos h]
      subst h
      rfl
    · rw [if_neg h, if_neg h]
      rfl
/-- What Merge makes is what the document's makes. -/
theorem gath_merge (la lb d : List (Int × Int)) (hA : asc la) (hB : asc lb) (h : Stab (la ++ lb) d) : gath ten d = mergeL la lb := by
  have hg := gath_spec ten d h.1
  refine asc_ext _ _ hg.1 (asc_putAll _) fun k => ?_
  rw [hg.2.1, h.2]
  unfold mergeL
  rw [look_putAll, kv_append, kv_append, kv_mrow, kv_asc la hA, kv_asc lb hB, look_has la hA, look_has lb hB]
  by_cases h1 : hasB la k = true <;> by_cases h2 : hasB lb k = true <;> simp [h1, h2, fj, lastV]
theorem mergeL_len (la lb : List (Int × Int)) : (mergeL la lb).length ≤ la.length + lb.length := by
  have := len_putAll (la ++ lb.map (mrow la))
  rw [List.length_append, List.length_map] at this
  exact this
theorem tabV_le {b1 b2 : Nat} {w : World} {b : Nat} {v : Value} {l : List (Int × Int)} (h : Rf.TabV b2 w b v l) (hb : b1 ≤ b2) : Rf.TabV b1 w b v l := ⟨Nat.le_trans hb h.1, h.2.1, Go.Joins.ownsRow_le h.2.2 hb⟩

theorem hto_of {base : Nat} {W : World} {b : Nat} {v : Value} {la lb ml : List (Int × Int)} (h : ml = mergeL la lb) (ht : Rf.TabV base W b v (putAll (la ++ lb.map (mrow la)))) : Hid (Rf.TabV base W b v ml) := by
  show Rf.TabV base W b v ml
  rw [h]
  exact ht

set_option maxRecDepth 100000 in
set_option maxHeartbeats 8000000 in
theorem law_merges (w : World) (A1 A2 : Option Addr) (len1 cap1 n1 len2 cap2 n2 : Nat) (rs1 rs2 : List (Int × Int)) (hin1 : PairsIn w A1 len1 n1 rs1) (hin2 : PairsIn w A2 len2 n2 rs2) :
    Calls Try.prog 5 #[.slice A1 len1 cap1, .slice A2 len2 cap2] w fun e w' => e = .returned (.bool true) ∧ Below w.heap.size w w' := by
  have hin2' : Hid (∀ W, Below w.heap.size w W → PairsIn W A2 len2 n2 rs2) := fun W hW => by
    obtain ⟨h1, h2, h3⟩ := hin2
    refine ⟨h1, h2, fun h0 => ?_⟩
    obtain ⟨g, o, rfl, hg, hc⟩ := h3 h0
    exact ⟨g, o, rfl, Nat.lt_of_lt_of_le hg hW.size, fun i r hr => ⟨(hW.cell (p := ⟨g, o + i * 2, none⟩) hg).trans (hc i r hr).1, (hW.cell (p := ⟨g, o + i * 2 + 1, none⟩) hg).trans (hc i r hr).2⟩⟩
  have HL : Hid ((putAll (rem1 rs1)).length ≤ 50 ∧ (putAll (rem1 rs2)).length ≤ 50) := by
    have h1 := hin1.1
    have h2 := hin1.2.1
    have h3 := hin2.1
    have h4 := hin2.2.1
    have h5 := len_putAll (rem1 rs1)
    have h6 := len_putAll (rem1 rs2)
    rw [rem1_len] at h5 h6
    exact ⟨by omega, by omega⟩
  have H1 := Lib.hid hin1
  have hmf : ∀ (fn : Fn) (first cap : Array Value) (w : World), (Instr.makeFunc fn first cap).run Try.prog w = .ok (.func fn first cap) w := fun _ _ _ _ => rfl
  clear hin1 hin2
  obtain ⟨la, hla⟩ : ∃ la, la = putAll (rem1 rs1) := ⟨_, rfl⟩
  obtain ⟨lb, hlb⟩ : ∃ lb, lb = putAll (rem1 rs2) := ⟨_, rfl⟩
  have ASA : Hid (asc la) := by rw [hla]; exact asc_putAll _
  have ASB : Hid (asc lb) := by rw [hlb]; exact asc_putAll _
  have hof1 := of_law w A1 len1 cap1 n1 rs1 H1.out
  have hof2 := fun W hW => of_law W A2 len2 cap2 n2 rs2 (hin2'.out W hW)
  rw [← hla] at hof1
  rw [← hlb] at hof2
  rw [← hla, ← hlb] at HL
  have HO1 := Lib.hid hof1
  have HO2 := Lib.hid hof2
  have HMG : Hid (∀ (W : World) (ta tb : Nat), Ii.TabR W (some ⟨ta, 0, none⟩) la → Ii.TabR W (some ⟨tb, 0, none⟩) lb → Calls Try.prog 28 #[.pointer (some ⟨ta, 0, none⟩), .pointer (some ⟨tb, 0, none⟩), .func (.func 29) #[] #[]] W (Ii.MergedT ten W (la ++ lb))) :=
    fun W ta tb h1 h2 => Ii.merge_any 100 (sortOK_all 100 (by omega)) ten 29 #[] W (some ⟨ta, 0, none⟩) (some ⟨tb, 0, none⟩) la lb h1 h2 (by have := HL.out; omega) (by have := HL.out; omega) (by have := HL.out; omega) (enters_of Try.func29 (by kernel_rfl) rfl) (fun a b W _ => ten_any a b W)
  clear hla hlb hof1 hof2 hin2' H1
  go_enter Try.func5, Try.ntmps5
  go_wp2_with (first
    | (go_at_call 28; (with_reducible refine (HMG.out w2 ta tb TA.out TB.out).mono ?_); rintro e w3 ⟨tm, dd, rfl, hst, htm, k3⟩)
    | (go_at_call 23; (with_reducible refine (HO2.out w1 k1).mono ?_); rintro e w2 ⟨tb, db, rfl, s2, k2⟩; have TA : Hid (Ii.TabR w2 (some ⟨ta, 0, none⟩) la) := by { obtain ⟨tv, dv, h1, h2⟩ := s1.below k2; exact h1.read }
       have TB : Hid (Ii.TabR w2 (some ⟨tb, 0, none⟩) lb) := by { obtain ⟨tv, dv, h1, h2⟩ := s2; exact h1.read })
    | (go_at_call 23; (with_reducible refine HO1.out.mono ?_); rintro e w1 ⟨ta, da, rfl, s1, k1⟩))
  obtain ⟨ml, hml⟩ : ∃ ml, ml = mergeL la lb := ⟨_, rfl⟩
  rw [gath_merge la lb dd ASA.out ASB.out hst, ← hml] at htm
  have HML := Lib.hid hml
  have LML : Hid (ml.length ≤ 100) := by
    have h1 := mergeL_len la lb
    have h2 := HL.out
    show _ ≤ _
    rw [hml]
    omega
  have z1 := k1.size
  have z2 := k2.size
  have z3 := k3.size
  have TM := Lib.hid htm.read
  obtain ⟨tva, dva, hA1, hA2⟩ := (s1.below k2).below k3
  obtain ⟨tvb, dvb, hB1, hB2⟩ := s2.below k3
  have RA := Lib.hid hA1.read
  have RB := Lib.hid hB1.read
  have DA := Lib.hid hA2
  have DB := Lib.hid (tabV_le hB2 z1)
  have KW : Hid (Below w.heap.size w w3) := (k1.trans (k2.mono z1)).trans (k3.mono (Nat.le_trans z1 z2))
  have HL1 := Lib.hid HL.out.1
  have HL2 := Lib.hid HL.out.2
  have lda := hA2.2.1.lt
  have ldb := hB2.2.1.lt
  have c1 := hA2.2.1.cell
  have c2 := hB2.2.1.cell
  have CA := Lib.hid c1
  have CB := Lib.hid c2
  have KX : Hid (Below w3.heap.size w3 w3.drew) := (Below.refl _ _).drew
  have d1 : w3.drew.cell? ⟨da, 0, none⟩ = some dva := c1
  have d2 : w3.drew.cell? ⟨db, 0, none⟩ = some dvb := c2
  clear hml hst htm s1 s2 k1 k2 k3 TA TB HMG HO1 HO2 hA1 hA2 hB1 hB2 HL
  go_wp2_with fail
  go_region_with
    (first
      | (go_at_call 19; have q := (DB.out.below KX.out).2.2; (with_reducible refine (Rf.same_eq _ _ _ ub dvb lb OB.out q (by have := HL2.out; omega)).mono ?_); rintro e W9 ⟨rfl, k⟩; have KX := Lib.hid (KX.out.trans (k.mono KX.out.size)); clear k; have d1 := (KX.out.cell (p := ⟨da, 0, none⟩) lda).trans CA.out; have d2 := (KX.out.cell (p := ⟨db, 0, none⟩) ldb).trans CB.out)
      | (go_at_call 20; (with_reducible refine (Rf.lrows_any _ vb lb RVB.out (by have := HL2.out; omega)).mono ?_); rintro e W8 ⟨ub, rfl, ho, k⟩; have OB := Lib.hid ho; have KX := Lib.hid (KX.out.trans (k.mono KX.out.size)); clear ho k; have d1 := (KX.out.cell (p := ⟨da, 0, none⟩) lda).trans CA.out; have d2 := (KX.out.cell (p := ⟨db, 0, none⟩) ldb).trans CB.out)
      | (go_at_call 21; (with_reducible refine (Ii.rows_any _ (some ⟨tb, 0, none⟩) lb (RB.out.below KX.out) (by have := HL2.out; omega)).mono ?_); rintro e W7 ⟨vb, rfl, ho, _, k⟩; have RVB := Lib.hid (Ii.RowsR.of_own ho); have KX := Lib.hid (KX.out.trans (k.mono KX.out.size)); clear ho k; have d1 := (KX.out.cell (p := ⟨da, 0, none⟩) lda).trans CA.out; have d2 := (KX.out.cell (p := ⟨db, 0, none⟩) ldb).trans CB.out)
      | (go_at_call 19; have q := (DA.out.below KX.out).2.2; (with_reducible refine (Rf.same_eq _ _ _ ua dva la OA.out q (by have := HL1.out; omega)).mono ?_); rintro e W6 ⟨rfl, k⟩; have KX := Lib.hid (KX.out.trans (k.mono KX.out.size)); clear k; have d1 := (KX.out.cell (p := ⟨da, 0, none⟩) lda).trans CA.out; have d2 := (KX.out.cell (p := ⟨db, 0, none⟩) ldb).trans CB.out)
      | (go_at_call 20; (with_reducible refine (Rf.lrows_any _ va la RVA.out (by have := HL1.out; omega)).mono ?_); rintro e W5 ⟨ua, rfl, ho, k⟩; have OA := Lib.hid ho; have KX := Lib.hid (KX.out.trans (k.mono KX.out.size)); clear ho k; have d1 := (KX.out.cell (p := ⟨da, 0, none⟩) lda).trans CA.out; have d2 := (KX.out.cell (p := ⟨db, 0, none⟩) ldb).trans CB.out)
      | (go_at_call 21; (with_reducible refine (Ii.rows_any _ (some ⟨ta, 0, none⟩) la (RA.out.below KX.out) (by have := HL1.out; omega)).mono ?_); rintro e W4 ⟨va, rfl, ho, _, k⟩; have RVA := Lib.hid (Ii.RowsR.of_own ho); have KX := Lib.hid (KX.out.trans (k.mono KX.out.size)); clear ho k; have d1 := (KX.out.cell (p := ⟨da, 0, none⟩) lda).trans CA.out; have d2 := (KX.out.cell (p := ⟨db, 0, none⟩) ldb).trans CB.out)
      | (go_at_call 19; have q := TO.out.2.2; (with_reducible refine (Rf.same_eq _ _ _ um dvm ml OM.out q (by have := LML.out; omega)).mono ?_); rintro e W3 ⟨rfl, k⟩; have KX := Lib.hid (KX.out.trans (k.mono KX.out.size)); clear k; have d1 := (KX.out.cell (p := ⟨da, 0, none⟩) lda).trans CA.out; have d2 := (KX.out.cell (p := ⟨db, 0, none⟩) ldb).trans CB.out)
      | (go_at_call 30; (with_reducible refine (rmerge_any w.heap.size _ da db dva dvb la lb (DA.out.below KX.out) (DB.out.below KX.out) ASA.out (by have := HL1.out; omega) (by have := HL2.out; omega)).mono ?_); rintro e W2 ⟨rfl, k, dvm, hto⟩
         have TO := hto_of HML.out hto; have co := TO.out.2.1.cell; have OM := Lib.hid (Rf.own_same OM.out k); have KX := Lib.hid (KX.out.trans (k.mono KX.out.size)); clear hto k; have d1 := (KX.out.cell (p := ⟨da, 0, none⟩) lda).trans CA.out; have d2 := (KX.out.cell (p := ⟨db, 0, none⟩) ldb).trans CB.out)
      | (go_at_call 20; (with_reducible refine (Rf.lrows_any _ vm ml RVM.out (by have := LML.out; omega)).mono ?_); rintro e W1 ⟨um, rfl, ho, k⟩; have OM := Lib.hid ho; have KX := Lib.hid (KX.out.trans (k.mono KX.out.size)); clear ho k; have d1 := (KX.out.cell (p := ⟨da, 0, none⟩) lda).trans CA.out; have d2 := (KX.out.cell (p := ⟨db, 0, none⟩) ldb).trans CB.out)
      | (go_at_call 21; (with_reducible refine (Ii.rows_any _ (some ⟨tm, 0, none⟩) ml (TM.out.below KX.out) (by have := LML.out; omega)).mono ?_); rintro e W0 ⟨vm, rfl, ho, _, k⟩; have RVM := Lib.hid (Ii.RowsR.of_own ho); have KX := Lib.hid (KX.out.trans (k.mono KX.out.size)); clear ho k; have d1 := (KX.out.cell (p := ⟨da, 0, none⟩) lda).trans CA.out; have d2 := (KX.out.cell (p := ⟨db, 0, none⟩) ldb).trans CB.out)
      | (go_at_call 22; (with_reducible refine (known_any _).mono ?_); rintro e WK ⟨rfl, k⟩; have KX := Lib.hid (KX.out.trans (k.mono KX.out.size)); clear k; have d1 := (KX.out.cell (p := ⟨da, 0, none⟩) lda).trans CA.out; have d2 := (KX.out.cell (p := ⟨db, 0, none⟩) ldb).trans CB.out))
  all_goals
    go_wp2
    go_ret
    exact ⟨rfl, KW.out.trans (KX.out.mono KW.out.size)⟩
end Go.Proofs.Ytflhpijcfiamgaa.Tb
