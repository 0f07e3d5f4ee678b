/-
  The law NoteSame: regions of two calls and two new blocks. Conditions: the table of kinds lies as the program's text lays it.
-/
import Derived.Test.YteahloddjekakaaDoorNLay
import Derived.Test.YteahloddjekakaaDoorNKno
import Derived.Test.YteahloddjekakaaDoorNQAny
namespace Go.Proofs.YteahloddjekakaaDoor.Nt
open Go.RowKit Td

theorem zer_mk {W w' : World} {b5 b6 : Nat} {t rt : TypeId} {A5 A6 : Option Addr} {lx ly : List Rw} (h5 : w'.heap[b5]? = some (.cells #[.int .i64 0, .int .i64 0, .int .i64 0, .int .i64 0, .string { data := #[] }, .string { data := #[] }, .string { data := #[] }, .int .i64 0, .int .i64 0, .string { data := #[] }, .int .i64 0, .slice none 0 0, .int .i64 0, .int .u64 0] t (0, 0))) (h6 : w'.heap[b6]? = some (.cells #[.int .i64 0, .int .i64 0, .int .i64 0, .int .i64 0, .string { data := #[] }, .string { data := #[] }, .string { data := #[] }, .int .i64 0, .int .i64 0, .string { data := #[] }, .int .i64 0, .slice none 0 0, .int .i64 0, .int .u64 0] t (0, 0))) (hb : Below W.heap.size W w') (r5 : RR w' A5 lx) (r6 : RR w' A6 ly) (t5 : Ty w' A5 rt) (t6 : Ty w' A6 rt) (hne : b5 ≠ b6) (hw5 : W.heap.size ≤ b5) (hw6 : W.heap.size ≤ b6) : Zer W w' b5 b6 t rt A5 lx A6 ly :=
  ⟨h5, h6, hne, hw5, hw6, hb, r5, r6, t5, t6⟩
set_option maxRecDepth 100000 in
set_option maxHeartbeats 16000000 in
theorem same_one (w : World) (hk : KinC w) (a b x y : Nt) (hx : Hid (x = cutN a)) (hy : Hid (y = cutN b)) (A B : Option Addr) (n c n' c' : Nat) (la lb lx ly : List Rw) (hla : Hid (RR w A la)) (hn : Hid (n = la.length)) (hlb : Hid (RR w B lb)) (hn' : Hid (n' = lb.length)) (hlx : Hid (lx = cutR la)) (hly : Hid (ly = cutR lb)) :
    Calls Tryd.prog 5 #[.agg #[.int .i64 a.k, .int .i64 a.p, .int .i64 a.d, .int .i64 a.t.n, .string a.t.b, .string a.t.s, .string a.t.i, .int .i64 a.t.q, .int .i64 a.t.p, .string a.n, .int .i64 a.a, .slice A n c, .int .i64 a.hi, .int .u64 a.lo], .agg #[.int .i64 b.k, .int .i64 b.p, .int .i64 b.d, .int .i64 b.t.n, .string b.t.b, .string b.t.s, .string b.t.i, .int .i64 b.t.q, .int .i64 b.t.p, .string b.n, .int .i64 b.a, .slice B n' c', .int .i64 b.hi, .int .u64 b.lo]] w fun e w' => e = .returned (.bool true) ∧ Below w.heap.size w w' := by
  have E1 := two_new2 w (.cells #[.int .i64 a.k, .int .i64 a.p, .int .i64 a.d, .int .i64 a.t.n, .string a.t.b, .string a.t.s, .string a.t.i, .int .i64 a.t.q, .int .i64 a.t.p, .string a.n, .int .i64 a.a, .slice A n c, .int .i64 a.hi, .int .u64 a.lo] 27) (.cells #[.int .i64 b.k, .int .i64 b.p, .int .i64 b.d, .int .i64 b.t.n, .string b.t.b, .string b.t.s, .string b.t.i, .int .i64 b.t.q, .int .i64 b.t.p, .string b.n, .int .i64 b.a, .slice B n' c', .int .i64 b.hi, .int .u64 b.lo] 27)
  have HB0 := Lib.hid E1.2.2
  have HLA := Lib.hid (hla.out.below HB0.out)
  have HLB := Lib.hid (hlb.out.below HB0.out)
  have HK := Lib.hid (hk.kept HB0.out)
  clear hla hlb hk
  go_enter Tryd.func5, Tryd.ntmps5
  go_upto_region 1 with fail
  generalize (w.alloc _).alloc _ = W0 at E1 HB0 HLA HLB HK ⊢
  have X := blk14 E1.1
  have Y := blk14 E1.2.1
  have HF1 : Hid (∀ W, Below W0.heap.size W0 W → Calls Tryd.prog 7 #[.agg #[.int .i64 a.k, .int .i64 a.p, .int .i64 a.d, .int .i64 a.t.n, .string a.t.b, .string a.t.s, .string a.t.i, .int .i64 a.t.q, .int .i64 a.t.p, .string a.n, .int .i64 a.a, .slice A n c, .int .i64 a.hi, .int .u64 a.lo]] W fun e w' => ∃ A' c', e = .returned (.agg #[.int .i64 x.k, .int .i64 x.p, .int .i64 x.d, .int .i64 x.t.n, .string x.t.b, .string x.t.s, .string x.t.i, .int .i64 x.t.q, .int .i64 x.t.p, .string x.n, .int .i64 x.a, .slice A' lx.length c', .int .i64 x.hi, .int .u64 x.lo]) ∧ RR w' A' lx ∧ lx.length ≤ c' ∧ Ty w' A' 58 ∧ Below W.heap.size W w') := fun W hW => to_any W a x hx A n c la (HLA.out.below hW) hn lx hlx
  have HF2 : Hid (∀ W, Below W0.heap.size W0 W → Calls Tryd.prog 7 #[.agg #[.int .i64 b.k, .int .i64 b.p, .int .i64 b.d, .int .i64 b.t.n, .string b.t.b, .string b.t.s, .string b.t.i, .int .i64 b.t.q, .int .i64 b.t.p, .string b.n, .int .i64 b.a, .slice B n' c', .int .i64 b.hi, .int .u64 b.lo]] W fun e w' => ∃ A' c', e = .returned (.agg #[.int .i64 y.k, .int .i64 y.p, .int .i64 y.d, .int .i64 y.t.n, .string y.t.b, .string y.t.s, .string y.t.i, .int .i64 y.t.q, .int .i64 y.t.p, .string y.n, .int .i64 y.a, .slice A' ly.length c', .int .i64 y.hi, .int .u64 y.lo]) ∧ RR w' A' ly ∧ ly.length ≤ c' ∧ Ty w' A' 58 ∧ Below W.heap.size W w') := fun W hW => to_any W b y hy B n' c' lb (HLB.out.below hW) hn' ly hly
  clear E1
  refine wp_region_rel 6 (by kernel_rfl) (by kernel_rfl) (fun a' w' => ∃ b5 b6 A5 c5 A6 c6, a' = { tmps := #[(.agg #[.int .i64 a.k, .int .i64 a.p, .int .i64 a.d, .int .i64 a.t.n, .string a.t.b, .string a.t.s, .string a.t.i, .int .i64 a.t.q, .int .i64 a.t.p, .string a.n, .int .i64 a.a, .slice A n c, .int .i64 a.hi, .int .u64 a.lo]), (.agg #[.int .i64 b.k, .int .i64 b.p, .int .i64 b.d, .int .i64 b.t.n, .string b.t.b, .string b.t.s, .string b.t.i, .int .i64 b.t.q, .int .i64 b.t.p, .string b.n, .int .i64 b.a, .slice B n' c', .int .i64 b.hi, .int .u64 b.lo]), (.pointer (some ⟨w.heap.size, 0, none⟩)), (.pointer (some ⟨w.heap.size + 1, 0, none⟩)), (.bool false), (.pointer (some ⟨b5, 0, none⟩)), (.pointer (some ⟨b6, 0, none⟩)), undef, undef, (.agg #[.int .i64 a.k, .int .i64 a.p, .int .i64 a.d, .int .i64 a.t.n, .string a.t.b, .string a.t.s, .string a.t.i, .int .i64 a.t.q, .int .i64 a.t.p, .string a.n, .int .i64 a.a, .slice A n c, .int .i64 a.hi, .int .u64 a.lo]), (.agg #[.int .i64 x.k, .int .i64 x.p, .int .i64 x.d, .int .i64 x.t.n, .string x.t.b, .string x.t.s, .string x.t.i, .int .i64 x.t.q, .int .i64 x.t.p, .string x.n, .int .i64 x.a, .slice A5 lx.length c5, .int .i64 x.hi, .int .u64 x.lo]), (.agg #[.int .i64 b.k, .int .i64 b.p, .int .i64 b.d, .int .i64 b.t.n, .string b.t.b, .string b.t.s, .string b.t.i, .int .i64 b.t.q, .int .i64 b.t.p, .string b.n, .int .i64 b.a, .slice B n' c', .int .i64 b.hi, .int .u64 b.lo]), (.agg #[.int .i64 y.k, .int .i64 y.p, .int .i64 y.d, .int .i64 y.t.n, .string y.t.b, .string y.t.s, .string y.t.i, .int .i64 y.t.q, .int .i64 y.t.p, .string y.n, .int .i64 y.a, .slice A6 ly.length c6, .int .i64 y.hi, .int .u64 y.lo]), undef, undef, undef, undef, undef, undef, undef, undef, undef, undef, undef, undef, undef, undef, undef, undef, undef, undef, undef, undef, undef, undef, undef, undef, undef], defers := [] } ∧ Zer W0 w' b5 b6 33 58 A5 lx A6 ly) ?rest ?first
  case first =>
    simp only [List.take_succ_cons, List.take_zero]
    refine wpAny_of_held (S := fun w' => Below W0.heap.size W0 w') _ _ _ _ ?_
    refine held_step 0 9 (.agg #[.int .i64 a.k, .int .i64 a.p, .int .i64 a.d, .int .i64 a.t.n, .string a.t.b, .string a.t.s, .string a.t.i, .int .i64 a.t.q, .int .i64 a.t.p, .string a.n, .int .i64 a.a, .slice A n c, .int .i64 a.hi, .int .u64 a.lo]) rfl rfl rfl (by kernel_rfl) (fun _ _ _ h => h) (Below.drew (Below.refl _ _)) (fun wz hS => by
      have e0 := (hS.cell (World.block_lt_of_cell? _ _ X.1.1)).trans X.1.1
      have e1 := (hS.cell (World.block_lt_of_cell? _ _ X.1.2.1)).trans X.1.2.1
      have e2 := (hS.cell (World.block_lt_of_cell? _ _ X.1.2.2.1)).trans X.1.2.2.1
      have e3 := (hS.cell (World.block_lt_of_cell? _ _ X.1.2.2.2.1)).trans X.1.2.2.2.1
      have e4 := (hS.cell (World.block_lt_of_cell? _ _ X.1.2.2.2.2.1)).trans X.1.2.2.2.2.1
      have e5 := (hS.cell (World.block_lt_of_cell? _ _ X.1.2.2.2.2.2.1)).trans X.1.2.2.2.2.2.1
      have e6 := (hS.cell (World.block_lt_of_cell? _ _ X.1.2.2.2.2.2.2)).trans X.1.2.2.2.2.2.2
      have e7 := (hS.cell (World.block_lt_of_cell? _ _ X.2.1)).trans X.2.1
      have e8 := (hS.cell (World.block_lt_of_cell? _ _ X.2.2.1)).trans X.2.2.1
      have e9 := (hS.cell (World.block_lt_of_cell? _ _ X.2.2.2.1)).trans X.2.2.2.1
      have e10 := (hS.cell (World.block_lt_of_cell? _ _ X.2.2.2.2.1)).trans X.2.2.2.2.1
      have e11 := (hS.cell (World.block_lt_of_cell? _ _ X.2.2.2.2.2.1)).trans X.2.2.2.2.2.1
      have e12 := (hS.cell (World.block_lt_of_cell? _ _ X.2.2.2.2.2.2.1)).trans X.2.2.2.2.2.2.1
      have e13 := (hS.cell (World.block_lt_of_cell? _ _ X.2.2.2.2.2.2.2)).trans X.2.2.2.2.2.2.2
      go_simp) ?_
    simp only [Act.put, List.setIfInBounds_toArray, List.set_cons_succ, List.set_cons_zero]
    refine held_step 2 11 (.agg #[.int .i64 b.k, .int .i64 b.p, .int .i64 b.d, .int .i64 b.t.n, .string b.t.b, .string b.t.s, .string b.t.i, .int .i64 b.t.q, .int .i64 b.t.p, .string b.n, .int .i64 b.a, .slice B n' c', .int .i64 b.hi, .int .u64 b.lo]) rfl rfl rfl (by kernel_rfl) (fun _ _ _ h => h) (Below.drew (Below.refl _ _)) (fun wz hS => by
      have e0 := (hS.cell (World.block_lt_of_cell? _ _ Y.1.1)).trans Y.1.1
      have e1 := (hS.cell (World.block_lt_of_cell? _ _ Y.1.2.1)).trans Y.1.2.1
      have e2 := (hS.cell (World.block_lt_of_cell? _ _ Y.1.2.2.1)).trans Y.1.2.2.1
      have e3 := (hS.cell (World.block_lt_of_cell? _ _ Y.1.2.2.2.1)).trans Y.1.2.2.2.1
      have e4 := (hS.cell (World.block_lt_of_cell? _ _ Y.1.2.2.2.2.1)).trans Y.1.2.2.2.2.1
      have e5 := (hS.cell (World.block_lt_of_cell? _ _ Y.1.2.2.2.2.2.1)).trans Y.1.2.2.2.2.2.1
      have e6 := (hS.cell (World.block_lt_of_cell? _ _ Y.1.2.2.2.2.2.2)).trans Y.1.2.2.2.2.2.2
      have e7 := (hS.cell (World.block_lt_of_cell? _ _ Y.2.1)).trans Y.2.1
      have e8 := (hS.cell (World.block_lt_of_cell? _ _ Y.2.2.1)).trans Y.2.2.1
      have e9 := (hS.cell (World.block_lt_of_cell? _ _ Y.2.2.2.1)).trans Y.2.2.2.1
      have e10 := (hS.cell (World.block_lt_of_cell? _ _ Y.2.2.2.2.1)).trans Y.2.2.2.2.1
      have e11 := (hS.cell (World.block_lt_of_cell? _ _ Y.2.2.2.2.2.1)).trans Y.2.2.2.2.2.1
      have e12 := (hS.cell (World.block_lt_of_cell? _ _ Y.2.2.2.2.2.2.1)).trans Y.2.2.2.2.2.2.1
      have e13 := (hS.cell (World.block_lt_of_cell? _ _ Y.2.2.2.2.2.2.2)).trans Y.2.2.2.2.2.2.2
      go_simp) ?_
    simp only [Act.put, List.setIfInBounds_toArray, List.set_cons_succ, List.set_cons_zero]
    have HS0 : Hid (Below W0.heap.size W0 W0.drew) := Below.drew (Below.refl _ _)
    refine wpAnyH_all (rs := [1, 4, 5]) (by kernel_rfl) (by simp) ?_
    intro i hi
    simp only [List.mem_cons, List.not_mem_nil, or_false] at hi
    rcases hi with rfl | rfl | rfl
    · refine wpOp_of_list rfl ?_
      go_wp2_with (go_at_call 7; refine (HF1.out _ HS0.out).mono ?_; rintro e w1 ⟨A5, c5, rfl, hr, _, ht, hb⟩; have HS1 := Lib.hid (Below.trans HS0.out (Below.mono hb HS0.out.size)); have HX2 := Lib.hid hr; have HX3 := Lib.hid ht; have hsz1 := hb.size; clear hb hr ht)
      refine ⟨HS1.out, ?_⟩
      refine wpAnyH_all (rs := [3, 4, 5]) (by kernel_rfl) (by simp) ?_
      intro i hi
      simp only [List.mem_cons, List.not_mem_nil, or_false] at hi
      rcases hi with rfl | rfl | rfl
      · refine wpOp_of_list rfl ?_
        go_wp2_with (go_at_call 7; refine (HF2.out _ HS1.out).mono ?_; rintro e w2 ⟨A6, c6, rfl, hr, _, ht, hb⟩; have HX4 := Lib.hid (RR.below HX2.out hb); have HX5 := Lib.hid (Ty.below HX3.out hb); have HS6 := Lib.hid (Below.trans HS1.out (Below.mono hb HS1.out.size)); have HX7 := Lib.hid hr; have HX8 := Lib.hid ht; have hsz2 := hb.size; clear hb hr ht)
        refine ⟨HS6.out, ?_⟩
        refine wpAnyH_all (rs := [4, 5]) (by kernel_rfl) (by simp) ?_
        intro i hi
        simp only [List.mem_cons, List.not_mem_nil, or_false] at hi
        rcases hi with rfl | rfl
        · refine wpOp_of_list rfl ?_
          go_wp2
          have HS9 : Hid (Below W0.heap.size W0 (w2.alloc (.cells #[.int .i64 0, .int .i64 0, .int .i64 0, .int .i64 0, .string { data := #[] }, .string { data := #[] }, .string { data := #[] }, .int .i64 0, .int .i64 0, .string { data := #[] }, .int .i64 0, .slice none 0 0, .int .i64 0, .int .u64 0] 33))) := Below.alloc HS6.out HS6.out.size (.cells #[.int .i64 0, .int .i64 0, .int .i64 0, .int .i64 0, .string { data := #[] }, .string { data := #[] }, .string { data := #[] }, .int .i64 0, .int .i64 0, .string { data := #[] }, .int .i64 0, .slice none 0 0, .int .i64 0, .int .u64 0] 33)
          have HX10 := Lib.hid (RR.below HX4.out (Below.alloc (Below.refl _ _) (Nat.le_refl _) (.cells #[.int .i64 0, .int .i64 0, .int .i64 0, .int .i64 0, .string { data := #[] }, .string { data := #[] }, .string { data := #[] }, .int .i64 0, .int .i64 0, .string { data := #[] }, .int .i64 0, .slice none 0 0, .int .i64 0, .int .u64 0] 33)))
          have HX11 := Lib.hid (RR.below HX7.out (Below.alloc (Below.refl _ _) (Nat.le_refl _) (.cells #[.int .i64 0, .int .i64 0, .int .i64 0, .int .i64 0, .string { data := #[] }, .string { data := #[] }, .string { data := #[] }, .int .i64 0, .int .i64 0, .string { data := #[] }, .int .i64 0, .slice none 0 0, .int .i64 0, .int .u64 0] 33)))
          have HX12 := Lib.hid (Ty.below HX5.out (Below.alloc (Below.refl _ _) (Nat.le_refl _) (.cells #[.int .i64 0, .int .i64 0, .int .i64 0, .int .i64 0, .string { data := #[] }, .string { data := #[] }, .string { data := #[] }, .int .i64 0, .int .i64 0, .string { data := #[] }, .int .i64 0, .slice none 0 0, .int .i64 0, .int .u64 0] 33)))
          have HX13 := Lib.hid (Ty.below HX8.out (Below.alloc (Below.refl _ _) (Nat.le_refl _) (.cells #[.int .i64 0, .int .i64 0, .int .i64 0, .int .i64 0, .string { data := #[] }, .string { data := #[] }, .string { data := #[] }, .int .i64 0, .int .i64 0, .string { data := #[] }, .int .i64 0, .slice none 0 0, .int .i64 0, .int .u64 0] 33)))
          have HX14 : Hid ((w2.alloc (.cells #[.int .i64 0, .int .i64 0, .int .i64 0, .int .i64 0, .string { data := #[] }, .string { data := #[] }, .string { data := #[] }, .int .i64 0, .int .i64 0, .string { data := #[] }, .int .i64 0, .slice none 0 0, .int .i64 0, .int .u64 0] 33)).heap[w2.heap.size]? = some (.cells #[.int .i64 0, .int .i64 0, .int .i64 0, .int .i64 0, .string { data := #[] }, .string { data := #[] }, .string { data := #[] }, .int .i64 0, .int .i64 0, .string { data := #[] }, .int .i64 0, .slice none 0 0, .int .i64 0, .int .u64 0] 33 (0, 0))) := heap_at (by first | rfl | simp)
          have HW15 : W0.heap.size ≤ w2.heap.size := by have h := HS6.out.size; first | exact h | (simp only [World.size_alloc] at h; first | exact h | omega) | omega
          refine ⟨HS9.out, ?_⟩
          refine wpAnyH_all (rs := [5]) (by kernel_rfl) (by simp) ?_
          intro i hi
          simp only [List.mem_cons, List.not_mem_nil, or_false] at hi
          subst hi
          refine wpOp_of_list rfl ?_
          go_wp2
          have HS16 : Hid (Below W0.heap.size W0 ((w2.alloc (.cells #[.int .i64 0, .int .i64 0, .int .i64 0, .int .i64 0, .string { data := #[] }, .string { data := #[] }, .string { data := #[] }, .int .i64 0, .int .i64 0, .string { data := #[] }, .int .i64 0, .slice none 0 0, .int .i64 0, .int .u64 0] 33)).alloc (.cells #[.int .i64 0, .int .i64 0, .int .i64 0, .int .i64 0, .string { data := #[] }, .string { data := #[] }, .string { data := #[] }, .int .i64 0, .int .i64 0, .string { data := #[] }, .int .i64 0, .slice none 0 0, .int .i64 0, .int .u64 0] 33))) := Below.alloc HS9.out HS9.out.size (.cells #[.int .i64 0, .int .i64 0, .int .i64 0, .int .i64 0, .string { data := #[] }, .string { data := #[] }, .string { data := #[] }, .int .i64 0, .int .i64 0, .string { data := #[] }, .int .i64 0, .slice none 0 0, .int .i64 0, .int .u64 0] 33)
          have HX17 := Lib.hid (block_old HX14.out (.cells #[.int .i64 0, .int .i64 0, .int .i64 0, .int .i64 0, .string { data := #[] }, .string { data := #[] }, .string { data := #[] }, .int .i64 0, .int .i64 0, .string { data := #[] }, .int .i64 0, .slice none 0 0, .int .i64 0, .int .u64 0] 33))
          have HX18 := Lib.hid (RR.below HX10.out (Below.alloc (Below.refl _ _) (Nat.le_refl _) (.cells #[.int .i64 0, .int .i64 0, .int .i64 0, .int .i64 0, .string { data := #[] }, .string { data := #[] }, .string { data := #[] }, .int .i64 0, .int .i64 0, .string { data := #[] }, .int .i64 0, .slice none 0 0, .int .i64 0, .int .u64 0] 33)))
          have HX19 := Lib.hid (RR.below HX11.out (Below.alloc (Below.refl _ _) (Nat.le_refl _) (.cells #[.int .i64 0, .int .i64 0, .int .i64 0, .int .i64 0, .string { data := #[] }, .string { data := #[] }, .string { data := #[] }, .int .i64 0, .int .i64 0, .string { data := #[] }, .int .i64 0, .slice none 0 0, .int .i64 0, .int .u64 0] 33)))
          have HX20 := Lib.hid (Ty.below HX12.out (Below.alloc (Below.refl _ _) (Nat.le_refl _) (.cells #[.int .i64 0, .int .i64 0, .int .i64 0, .int .i64 0, .string { data := #[] }, .string { data := #[] }, .string { data := #[] }, .int .i64 0, .int .i64 0, .string { data := #[] }, .int .i64 0, .slice none 0 0, .int .i64 0, .int .u64 0] 33)))
          have HX21 := Lib.hid (Ty.below HX13.out (Below.alloc (Below.refl _ _) (Nat.le_refl _) (.cells #[.int .i64 0, .int .i64 0, .int .i64 0, .int .i64 0, .string { data := #[] }, .string { data := #[] }, .string { data := #[] }, .int .i64 0, .int .i64 0, .string { data := #[] }, .int .i64 0, .slice none 0 0, .int .i64 0, .int .u64 0] 33)))
          have HX22 : Hid (((w2.alloc (.cells #[.int .i64 0, .int .i64 0, .int .i64 0, .int .i64 0, .string { data := #[] }, .string { data := #[] }, .string { data := #[] }, .int .i64 0, .int .i64 0, .string { data := #[] }, .int .i64 0, .slice none 0 0, .int .i64 0, .int .u64 0] 33)).alloc (.cells #[.int .i64 0, .int .i64 0, .int .i64 0, .int .i64 0, .string { data := #[] }, .string { data := #[] }, .string { data := #[] }, .int .i64 0, .int .i64 0, .string { data := #[] }, .int .i64 0, .slice none 0 0, .int .i64 0, .int .u64 0] 33)).heap[w2.heap.size + 1]? = some (.cells #[.int .i64 0, .int .i64 0, .int .i64 0, .int .i64 0, .string { data := #[] }, .string { data := #[] }, .string { data := #[] }, .int .i64 0, .int .i64 0, .string { data := #[] }, .int .i64 0, .slice none 0 0, .int .i64 0, .int .u64 0] 33 (0, 0))) := heap_at (by first | rfl | simp)
          have HW23 : W0.heap.size ≤ w2.heap.size + 1 := by have h := HS9.out.size; first | exact h | (simp only [World.size_alloc] at h; first | exact h | omega) | omega
          have HN24 : w2.heap.size ≠ w2.heap.size + 1 := by have h := (Array.getElem?_eq_some_iff.1 HX14.out).1; first | omega | (simp only [World.size_alloc] at h; omega)
          refine ⟨HS16.out, ?_⟩
          refine ⟨by kernel_rfl, ?_⟩
          exact ⟨w2.heap.size, w2.heap.size + 1, A5, c5, A6, c6, rfl, zer_mk HX17.out HX22.out HS16.out HX18.out HX19.out HX20.out HX21.out HN24 HW15 HW23⟩
        · refine wpOp_of_list rfl ?_
          go_wp2
          have HS25 : Hid (Below W0.heap.size W0 (w2.alloc (.cells #[.int .i64 0, .int .i64 0, .int .i64 0, .int .i64 0, .string { data := #[] }, .string { data := #[] }, .string { data := #[] }, .int .i64 0, .int .i64 0, .string { data := #[] }, .int .i64 0, .slice none 0 0, .int .i64 0, .int .u64 0] 33))) := Below.alloc HS6.out HS6.out.size (.cells #[.int .i64 0, .int .i64 0, .int .i64 0, .int .i64 0, .string { data := #[] }, .string { data := #[] }, .string { data := #[] }, .int .i64 0, .int .i64 0, .string { data := #[] }, .int .i64 0, .slice none 0 0, .int .i64 0, .int .u64 0] 33)
          have HX26 := Lib.hid (RR.below HX4.out (Below.alloc (Below.refl _ _) (Nat.le_refl _) (.cells #[.int .i64 0, .int .i64 0, .int .i64 0, .int .i64 0, .string { data := #[] }, .string { data := #[] }, .string { data := #[] }, .int .i64 0, .int .i64 0, .string { data := #[] }, .int .i64 0, .slice none 0 0, .int .i64 0, .int .u64 0] 33)))
          have HX27 := Lib.hid (RR.below HX7.out (Below.alloc (Below.refl _ _) (Nat.le_refl _) (.cells #[.int .i64 0, .int .i64 0, .int .i64 0, .int .i64 0, .string { data := #[] }, .string { data := #[] }, .string { data := #[] }, .int .i64 0, .int .i64 0, .string { data := #[] }, .int .i64 0, .slice none 0 0, .int .i64 0, .int .u64 0] 33)))
          have HX28 := Lib.hid (Ty.below HX5.out (Below.alloc (Below.refl _ _) (Nat.le_refl _) (.cells #[.int .i64 0, .int .i64 0, .int .i64 0, .int .i64 0, .string { data := #[] }, .string { data := #[] }, .string { data := #[] }, .int .i64 0, .int .i64 0, .string { data := #[] }, .int .i64 0, .slice none 0 0, .int .i64 0, .int .u64 0] 33)))
          have HX29 := Lib.hid (Ty.below HX8.out (Below.alloc (Below.refl _ _) (Nat.le_refl _) (.cells #[.int .i64 0, .int .i64 0, .int .i64 0, .int .i64 0, .string { data := #[] }, .string { data := #[] }, .string { data := #[] }, .int .i64 0, .int .i64 0, .string { data := #[] }, .int .i64 0, .slice none 0 0, .int .i64 0, .int .u64 0] 33)))
          have HX30 : Hid ((w2.alloc (.cells #[.int .i64 0, .int .i64 0, .int .i64 0, .int .i64 0, .string { data := #[] }, .string { data := #[] }, .string { data := #[] }, .int .i64 0, .int .i64 0, .string { data := #[] }, .int .i64 0, .slice none 0 0, .int .i64 0, .int .u64 0] 33)).heap[w2.heap.size]? = some (.cells #[.int .i64 0, .int .i64 0, .int .i64 0, .int .i64 0, .string { data := #[] }, .string { data := #[] }, .string { data := #[] }, .int .i64 0, .int .i64 0, .string { data := #[] }, .int .i64 0, .slice none 0 0, .int .i64 0, .int .u64 0] 33 (0, 0))) := heap_at (by first | rfl | simp)
          have HW31 : W0.heap.size ≤ w2.heap.size := by have h := HS6.out.size; first | exact h | (simp only [World.size_alloc] at h; first | exact h | omega) | omega
          refine ⟨HS25.out, ?_⟩
          refine wpAnyH_all (rs := [4]) (by kernel_rfl) (by simp) ?_
          intro i hi
          simp only [List.mem_cons, List.not_mem_nil, or_false] at hi
          subst hi
          refine wpOp_of_list rfl ?_
          go_wp2
          have HS32 : Hid (Below W0.heap.size W0 ((w2.alloc (.cells #[.int .i64 0, .int .i64 0, .int .i64 0, .int .i64 0, .string { data := #[] }, .string { data := #[] }, .string { data := #[] }, .int .i64 0, .int .i64 0, .string { data := #[] }, .int .i64 0, .slice none 0 0, .int .i64 0, .int .u64 0] 33)).alloc (.cells #[.int .i64 0, .int .i64 0, .int .i64 0, .int .i64 0, .string { data := #[] }, .string { data := #[] }, .string { data := #[] }, .int .i64 0, .int .i64 0, .string { data := #[] }, .int .i64 0, .slice none 0 0, .int .i64 0, .int .u64 0] 33))) := Below.alloc HS25.out HS25.out.size (.cells #[.int .i64 0, .int .i64 0, .int .i64 0, .int .i64 0, .string { data := #[] }, .string { data := #[] }, .string { data := #[] }, .int .i64 0, .int .i64 0, .string { data := #[] }, .int .i64 0, .slice none 0 0, .int .i64 0, .int .u64 0] 33)
          have HX33 := Lib.hid (block_old HX30.out (.cells #[.int .i64 0, .int .i64 0, .int .i64 0, .int .i64 0, .string { data := #[] }, .string { data := #[] }, .string { data := #[] }, .int .i64 0, .int .i64 0, .string { data := #[] }, .int .i64 0, .slice none 0 0, .int .i64 0, .int .u64 0] 33))
          have HX34 := Lib.hid (RR.below HX26.out (Below.alloc (Below.refl _ _) (Nat.le_refl _) (.cells #[.int .i64 0, .int .i64 0, .int .i64 0, .int .i64 0, .string { data := #[] }, .string { data := #[] }, .string { data := #[] }, .int .i64 0, .int .i64 0, .string { data := #[] }, .int .i64 0, .slice none 0 0, .int .i64 0, .int .u64 0] 33)))
          have HX35 := Lib.hid (RR.below HX27.out (Below.alloc (Below.refl _ _) (Nat.le_refl _) (.cells #[.int .i64 0, .int .i64 0, .int .i64 0, .int .i64 0, .string { data := #[] }, .string { data := #[] }, .string { data := #[] }, .int .i64 0, .int .i64 0, .string { data := #[] }, .int .i64 0, .slice none 0 0, .int .i64 0, .int .u64 0] 33)))
          have HX36 := Lib.hid (Ty.below HX28.out (Below.alloc (Below.refl _ _) (Nat.le_refl _) (.cells #[.int .i64 0, .int .i64 0, .int .i64 0, .int .i64 0, .string { data := #[] }, .string { data := #[] }, .string { data := #[] }, .int .i64 0, .int .i64 0, .string { data := #[] }, .int .i64 0, .slice none 0 0, .int .i64 0, .int .u64 0] 33)))
          have HX37 := Lib.hid (Ty.below HX29.out (Below.alloc (Below.refl _ _) (Nat.le_refl _) (.cells #[.int .i64 0, .int .i64 0, .int .i64 0, .int .i64 0, .string { data := #[] }, .string { data := #[] }, .string { data := #[] }, .int .i64 0, .int .i64 0, .string { data := #[] }, .int .i64 0, .slice none 0 0, .int .i64 0, .int .u64 0] 33)))
          have HX38 : Hid (((w2.alloc (.cells #[.int .i64 0, .int .i64 0, .int .i64 0, .int .i64 0, .string { data := #[] }, .string { data := #[] }, .string { data := #[] }, .int .i64 0, .int .i64 0, .string { data := #[] }, .int .i64 0, .slice none 0 0, .int .i64 0, .int .u64 0] 33)).alloc (.cells #[.int .i64 0, .int .i64 0, .int .i64 0, .int .i64 0, .string { data := #[] }, .string { data := #[] }, .string { data := #[] }, .int .i64 0, .int .i64 0, .string { data := #[] }, .int .i64 0, .slice none 0 0, .int .i64 0, .int .u64 0] 33)).heap[w2.heap.size + 1]? = some (.cells #[.int .i64 0, .int .i64 0, .int .i64 0, .int .i64 0, .string { data := #[] }, .string { data := #[] }, .string { data := #[] }, .int .i64 0, .int .i64 0, .string { data := #[] }, .int .i64 0, .slice none 0 0, .int .i64 0, .int .u64 0] 33 (0, 0))) := heap_at (by first | rfl | simp)
          have HW39 : W0.heap.size ≤ w2.heap.size + 1 := by have h := HS25.out.size; first | exact h | (simp only [World.size_alloc] at h; first | exact h | omega) | omega
          have HN40 : w2.heap.size + 1 ≠ w2.heap.size := by have h := (Array.getElem?_eq_some_iff.1 HX30.out).1; first | omega | (simp only [World.size_alloc] at h; omega)
          refine ⟨HS32.out, ?_⟩
          refine ⟨by kernel_rfl, ?_⟩
          exact ⟨w2.heap.size + 1, w2.heap.size, A5, c5, A6, c6, rfl, zer_mk HX38.out HX33.out HS32.out HX34.out HX35.out HX36.out HX37.out HN40 HW39 HW31⟩
      · refine wpOp_of_list rfl ?_
        go_wp2
        have HS41 : Hid (Below W0.heap.size W0 (w1.alloc (.cells #[.int .i64 0, .int .i64 0, .int .i64 0, .int .i64 0, .string { data := #[] }, .string { data := #[] }, .string { data := #[] }, .int .i64 0, .int .i64 0, .string { data := #[] }, .int .i64 0, .slice none 0 0, .int .i64 0, .int .u64 0] 33))) := Below.alloc HS1.out HS1.out.size (.cells #[.int .i64 0, .int .i64 0, .int .i64 0, .int .i64 0, .string { data := #[] }, .string { data := #[] }, .string { data := #[] }, .int .i64 0, .int .i64 0, .string { data := #[] }, .int .i64 0, .slice none 0 0, .int .i64 0, .int .u64 0] 33)
        have HX42 := Lib.hid (RR.below HX2.out (Below.alloc (Below.refl _ _) (Nat.le_refl _) (.cells #[.int .i64 0, .int .i64 0, .int .i64 0, .int .i64 0, .string { data := #[] }, .string { data := #[] }, .string { data := #[] }, .int .i64 0, .int .i64 0, .string { data := #[] }, .int .i64 0, .slice none 0 0, .int .i64 0, .int .u64 0] 33)))
        have HX43 := Lib.hid (Ty.below HX3.out (Below.alloc (Below.refl _ _) (Nat.le_refl _) (.cells #[.int .i64 0, .int .i64 0, .int .i64 0, .int .i64 0, .string { data := #[] }, .string { data := #[] }, .string { data := #[] }, .int .i64 0, .int .i64 0, .string { data := #[] }, .int .i64 0, .slice none 0 0, .int .i64 0, .int .u64 0] 33)))
        have HX44 : Hid ((w1.alloc (.cells #[.int .i64 0, .int .i64 0, .int .i64 0, .int .i64 0, .string { data := #[] }, .string { data := #[] }, .string { data := #[] }, .int .i64 0, .int .i64 0, .string { data := #[] }, .int .i64 0, .slice none 0 0, .int .i64 0, .int .u64 0] 33)).heap[w1.heap.size]? = some (.cells #[.int .i64 0, .int .i64 0, .int .i64 0, .int .i64 0, .string { data := #[] }, .string { data := #[] }, .string { data := #[] }, .int .i64 0, .int .i64 0, .string { data := #[] }, .int .i64 0, .slice none 0 0, .int .i64 0, .int .u64 0] 33 (0, 0))) := heap_at (by first | rfl | simp)
        have HW45 : W0.heap.size ≤ w1.heap.size := by have h := HS1.out.size; first | exact h | (simp only [World.size_alloc] at h; first | exact h | omega) | omega
        refine ⟨HS41.out, ?_⟩
        refine wpAnyH_all (rs := [3, 5]) (by kernel_rfl) (by simp) ?_
        intro i hi
        simp only [List.mem_cons, List.not_mem_nil, or_false] at hi
        rcases hi with rfl | rfl
        · refine wpOp_of_list rfl ?_
          go_wp2_with (go_at_call 7; refine (HF2.out _ HS41.out).mono ?_; rintro e w2 ⟨A6, c6, rfl, hr, _, ht, hb⟩; have HX46 := Lib.hid (block_kept HX44.out hb); have HX47 := Lib.hid (RR.below HX42.out hb); have HX48 := Lib.hid (Ty.below HX43.out hb); have HS49 := Lib.hid (Below.trans HS41.out (Below.mono hb HS41.out.size)); have HX50 := Lib.hid hr; have HX51 := Lib.hid ht; have hsz2 := hb.size; clear hb hr ht)
          refine ⟨HS49.out, ?_⟩
          refine wpAnyH_all (rs := [5]) (by kernel_rfl) (by simp) ?_
          intro i hi
          simp only [List.mem_cons, List.not_mem_nil, or_false] at hi
          subst hi
          refine wpOp_of_list rfl ?_
          go_wp2
          have HS52 : Hid (Below W0.heap.size W0 (w2.alloc (.cells #[.int .i64 0, .int .i64 0, .int .i64 0, .int .i64 0, .string { data := #[] }, .string { data := #[] }, .string { data := #[] }, .int .i64 0, .int .i64 0, .string { data := #[] }, .int .i64 0, .slice none 0 0, .int .i64 0, .int .u64 0] 33))) := Below.alloc HS49.out HS49.out.size (.cells #[.int .i64 0, .int .i64 0, .int .i64 0, .int .i64 0, .string { data := #[] }, .string { data := #[] }, .string { data := #[] }, .int .i64 0, .int .i64 0, .string { data := #[] }, .int .i64 0, .slice none 0 0, .int .i64 0, .int .u64 0] 33)
          have HX53 := Lib.hid (block_old HX46.out (.cells #[.int .i64 0, .int .i64 0, .int .i64 0, .int .i64 0, .string { data := #[] }, .string { data := #[] }, .string { data := #[] }, .int .i64 0, .int .i64 0, .string { data := #[] }, .int .i64 0, .slice none 0 0, .int .i64 0, .int .u64 0] 33))
          have HX54 := Lib.hid (RR.below HX47.out (Below.alloc (Below.refl _ _) (Nat.le_refl _) (.cells #[.int .i64 0, .int .i64 0, .int .i64 0, .int .i64 0, .string { data := #[] }, .string { data := #[] }, .string { data := #[] }, .int .i64 0, .int .i64 0, .string { data := #[] }, .int .i64 0, .slice none 0 0, .int .i64 0, .int .u64 0] 33)))
          have HX55 := Lib.hid (RR.below HX50.out (Below.alloc (Below.refl _ _) (Nat.le_refl _) (.cells #[.int .i64 0, .int .i64 0, .int .i64 0, .int .i64 0, .string { data := #[] }, .string { data := #[] }, .string { data := #[] }, .int .i64 0, .int .i64 0, .string { data := #[] }, .int .i64 0, .slice none 0 0, .int .i64 0, .int .u64 0] 33)))
          have HX56 := Lib.hid (Ty.below HX48.out (Below.alloc (Below.refl _ _) (Nat.le_refl _) (.cells #[.int .i64 0, .int .i64 0, .int .i64 0, .int .i64 0, .string { data := #[] }, .string { data := #[] }, .string { data := #[] }, .int .i64 0, .int .i64 0, .string { data := #[] }, .int .i64 0, .slice none 0 0, .int .i64 0, .int .u64 0] 33)))
          have HX57 := Lib.hid (Ty.below HX51.out (Below.alloc (Below.refl _ _) (Nat.le_refl _) (.cells #[.int .i64 0, .int .i64 0, .int .i64 0, .int .i64 0, .string { data := #[] }, .string { data := #[] }, .string { data := #[] }, .int .i64 0, .int .i64 0, .string { data := #[] }, .int .i64 0, .slice none 0 0, .int .i64 0, .int .u64 0] 33)))
          have HX58 : Hid ((w2.alloc (.cells #[.int .i64 0, .int .i64 0, .int .i64 0, .int .i64 0, .string { data := #[] }, .string { data := #[] }, .string { data := #[] }, .int .i64 0, .int .i64 0, .string { data := #[] }, .int .i64 0, .slice none 0 0, .int .i64 0, .int .u64 0] 33)).heap[w2.heap.size]? = some (.cells #[.int .i64 0, .int .i64 0, .int .i64 0, .int .i64 0, .string { data := #[] }, .string { data := #[] }, .string { data := #[] }, .int .i64 0, .int .i64 0, .string { data := #[] }, .int .i64 0, .slice none 0 0, .int .i64 0, .int .u64 0] 33 (0, 0))) := heap_at (by first | rfl | simp)
          have HW59 : W0.heap.size ≤ w2.heap.size := by have h := HS49.out.size; first | exact h | (simp only [World.size_alloc] at h; first | exact h | omega) | omega
          have HN60 : w1.heap.size ≠ w2.heap.size := by have h := (Array.getElem?_eq_some_iff.1 HX46.out).1; first | omega | (simp only [World.size_alloc] at h; omega)
          refine ⟨HS52.out, ?_⟩
          refine ⟨by kernel_rfl, ?_⟩
          exact ⟨w1.heap.size, w2.heap.size, A5, c5, A6, c6, rfl, zer_mk HX53.out HX58.out HS52.out HX54.out HX55.out HX56.out HX57.out HN60 HW45 HW59⟩
        · refine wpOp_of_list rfl ?_
          go_wp2
          have HS61 : Hid (Below W0.heap.size W0 ((w1.alloc (.cells #[.int .i64 0, .int .i64 0, .int .i64 0, .int .i64 0, .string { data := #[] }, .string { data := #[] }, .string { data := #[] }, .int .i64 0, .int .i64 0, .string { data := #[] }, .int .i64 0, .slice none 0 0, .int .i64 0, .int .u64 0] 33)).alloc (.cells #[.int .i64 0, .int .i64 0, .int .i64 0, .int .i64 0, .string { data := #[] }, .string { data := #[] }, .string { data := #[] }, .int .i64 0, .int .i64 0, .string { data := #[] }, .int .i64 0, .slice none 0 0, .int .i64 0, .int .u64 0] 33))) := Below.alloc HS41.out HS41.out.size (.cells #[.int .i64 0, .int .i64 0, .int .i64 0, .int .i64 0, .string { data := #[] }, .string { data := #[] }, .string { data := #[] }, .int .i64 0, .int .i64 0, .string { data := #[] }, .int .i64 0, .slice none 0 0, .int .i64 0, .int .u64 0] 33)
          have HX62 := Lib.hid (block_old HX44.out (.cells #[.int .i64 0, .int .i64 0, .int .i64 0, .int .i64 0, .string { data := #[] }, .string { data := #[] }, .string { data := #[] }, .int .i64 0, .int .i64 0, .string { data := #[] }, .int .i64 0, .slice none 0 0, .int .i64 0, .int .u64 0] 33))
          have HX63 := Lib.hid (RR.below HX42.out (Below.alloc (Below.refl _ _) (Nat.le_refl _) (.cells #[.int .i64 0, .int .i64 0, .int .i64 0, .int .i64 0, .string { data := #[] }, .string { data := #[] }, .string { data := #[] }, .int .i64 0, .int .i64 0, .string { data := #[] }, .int .i64 0, .slice none 0 0, .int .i64 0, .int .u64 0] 33)))
          have HX64 := Lib.hid (Ty.below HX43.out (Below.alloc (Below.refl _ _) (Nat.le_refl _) (.cells #[.int .i64 0, .int .i64 0, .int .i64 0, .int .i64 0, .string { data := #[] }, .string { data := #[] }, .string { data := #[] }, .int .i64 0, .int .i64 0, .string { data := #[] }, .int .i64 0, .slice none 0 0, .int .i64 0, .int .u64 0] 33)))
          have HX65 : Hid (((w1.alloc (.cells #[.int .i64 0, .int .i64 0, .int .i64 0, .int .i64 0, .string { data := #[] }, .string { data := #[] }, .string { data := #[] }, .int .i64 0, .int .i64 0, .string { data := #[] }, .int .i64 0, .slice none 0 0, .int .i64 0, .int .u64 0] 33)).alloc (.cells #[.int .i64 0, .int .i64 0, .int .i64 0, .int .i64 0, .string { data := #[] }, .string { data := #[] }, .string { data := #[] }, .int .i64 0, .int .i64 0, .string { data := #[] }, .int .i64 0, .slice none 0 0, .int .i64 0, .int .u64 0] 33)).heap[w1.heap.size + 1]? = some (.cells #[.int .i64 0, .int .i64 0, .int .i64 0, .int .i64 0, .string { data := #[] }, .string { data := #[] }, .string { data := #[] }, .int .i64 0, .int .i64 0, .string { data := #[] }, .int .i64 0, .slice none 0 0, .int .i64 0, .int .u64 0] 33 (0, 0))) := heap_at (by first | rfl | simp)
          have HW66 : W0.heap.size ≤ w1.heap.size + 1 := by have h := HS41.out.size; first | exact h | (simp only [World.size_alloc] at h; first | exact h | omega) | omega
          have HN67 : w1.heap.size ≠ w1.heap.size + 1 := by have h := (Array.getElem?_eq_some_iff.1 HX44.out).1; first | omega | (simp only [World.size_alloc] at h; omega)
          refine ⟨HS61.out, ?_⟩
          refine wpAnyH_all (rs := [3]) (by kernel_rfl) (by simp) ?_
          intro i hi
          simp only [List.mem_cons, List.not_mem_nil, or_false] at hi
          subst hi
          refine wpOp_of_list rfl ?_
          go_wp2_with (go_at_call 7; refine (HF2.out _ HS61.out).mono ?_; rintro e w2 ⟨A6, c6, rfl, hr, _, ht, hb⟩; have HX68 := Lib.hid (block_kept HX62.out hb); have HX69 := Lib.hid (block_kept HX65.out hb); have HX70 := Lib.hid (RR.below HX63.out hb); have HX71 := Lib.hid (Ty.below HX64.out hb); have HS72 := Lib.hid (Below.trans HS61.out (Below.mono hb HS61.out.size)); have HX73 := Lib.hid hr; have HX74 := Lib.hid ht; have hsz2 := hb.size; clear hb hr ht)
          refine ⟨HS72.out, ?_⟩
          refine ⟨by kernel_rfl, ?_⟩
          exact ⟨w1.heap.size, w1.heap.size + 1, A5, c5, A6, c6, rfl, zer_mk HX68.out HX69.out HS72.out HX70.out HX73.out HX71.out HX74.out HN67 HW45 HW66⟩
      · refine wpOp_of_list rfl ?_
        go_wp2
        have HS75 : Hid (Below W0.heap.size W0 (w1.alloc (.cells #[.int .i64 0, .int .i64 0, .int .i64 0, .int .i64 0, .string { data := #[] }, .string { data := #[] }, .string { data := #[] }, .int .i64 0, .int .i64 0, .string { data := #[] }, .int .i64 0, .slice none 0 0, .int .i64 0, .int .u64 0] 33))) := Below.alloc HS1.out HS1.out.size (.cells #[.int .i64 0, .int .i64 0, .int .i64 0, .int .i64 0, .string { data := #[] }, .string { data := #[] }, .string { data := #[] }, .int .i64 0, .int .i64 0, .string { data := #[] }, .int .i64 0, .slice none 0 0, .int .i64 0, .int .u64 0] 33)
        have HX76 := Lib.hid (RR.below HX2.out (Below.alloc (Below.refl _ _) (Nat.le_refl _) (.cells #[.int .i64 0, .int .i64 0, .int .i64 0, .int .i64 0, .string { data := #[] }, .string { data := #[] }, .string { data := #[] }, .int .i64 0, .int .i64 0, .string { data := #[] }, .int .i64 0, .slice none 0 0, .int .i64 0, .int .u64 0] 33)))
        have HX77 := Lib.hid (Ty.below HX3.out (Below.alloc (Below.refl _ _) (Nat.le_refl _) (.cells #[.int .i64 0, .int .i64 0, .int .i64 0, .int .i64 0, .string { data := #[] }, .string { data := #[] }, .string { data := #[] }, .int .i64 0, .int .i64 0, .string { data := #[] }, .int .i64 0, .slice none 0 0, .int .i64 0, .int .u64 0] 33)))
        have HX78 : Hid ((w1.alloc (.cells #[.int .i64 0, .int .i64 0, .int .i64 0, .int .i64 0, .string { data := #[] }, .string { data := #[] }, .string { data := #[] }, .int .i64 0, .int .i64 0, .string { data := #[] }, .int .i64 0, .slice none 0 0, .int .i64 0, .int .u64 0] 33)).heap[w1.heap.size]? = some (.cells #[.int .i64 0, .int .i64 0, .int .i64 0, .int .i64 0, .string { data := #[] }, .string { data := #[] }, .string { data := #[] }, .int .i64 0, .int .i64 0, .string { data := #[] }, .int .i64 0, .slice none 0 0, .int .i64 0, .int .u64 0] 33 (0, 0))) := heap_at (by first | rfl | simp)
        have HW79 : W0.heap.size ≤ w1.heap.size := by have h := HS1.out.size; first | exact h | (simp only [World.size_alloc] at h; first | exact h | omega) | omega
        refine ⟨HS75.out, ?_⟩
        refine wpAnyH_all (rs := [3, 4]) (by kernel_rfl) (by simp) ?_
        intro i hi
        simp only [List.mem_cons, List.not_mem_nil, or_false] at hi
        rcases hi with rfl | rfl
        · refine wpOp_of_list rfl ?_
          go_wp2_with (go_at_call 7; refine (HF2.out _ HS75.out).mono ?_; rintro e w2 ⟨A6, c6, rfl, hr, _, ht, hb⟩; have HX80 := Lib.hid (block_kept HX78.out hb); have HX81 := Lib.hid (RR.below HX76.out hb); have HX82 := Lib.hid (Ty.below HX77.out hb); have HS83 := Lib.hid (Below.trans HS75.out (Below.mono hb HS75.out.size)); have HX84 := Lib.hid hr; have HX85 := Lib.hid ht; have hsz2 := hb.size; clear hb hr ht)
          refine ⟨HS83.out, ?_⟩
          refine wpAnyH_all (rs := [4]) (by kernel_rfl) (by simp) ?_
          intro i hi
          simp only [List.mem_cons, List.not_mem_nil, or_false] at hi
          subst hi
          refine wpOp_of_list rfl ?_
          go_wp2
          have HS86 : Hid (Below W0.heap.size W0 (w2.alloc (.cells #[.int .i64 0, .int .i64 0, .int .i64 0, .int .i64 0, .string { data := #[] }, .string { data := #[] }, .string { data := #[] }, .int .i64 0, .int .i64 0, .string { data := #[] }, .int .i64 0, .slice none 0 0, .int .i64 0, .int .u64 0] 33))) := Below.alloc HS83.out HS83.out.size (.cells #[.int .i64 0, .int .i64 0, .int .i64 0, .int .i64 0, .string { data := #[] }, .string { data := #[] }, .string { data := #[] }, .int .i64 0, .int .i64 0, .string { data := #[] }, .int .i64 0, .slice none 0 0, .int .i64 0, .int .u64 0] 33)
          have HX87 := Lib.hid (block_old HX80.out (.cells #[.int .i64 0, .int .i64 0, .int .i64 0, .int .i64 0, .string { data := #[] }, .string { data := #[] }, .string { data := #[] }, .int .i64 0, .int .i64 0, .string { data := #[] }, .int .i64 0, .slice none 0 0, .int .i64 0, .int .u64 0] 33))
          have HX88 := Lib.hid (RR.below HX81.out (Below.alloc (Below.refl _ _) (Nat.le_refl _) (.cells #[.int .i64 0, .int .i64 0, .int .i64 0, .int .i64 0, .string { data := #[] }, .string { data := #[] }, .string { data := #[] }, .int .i64 0, .int .i64 0, .string { data := #[] }, .int .i64 0, .slice none 0 0, .int .i64 0, .int .u64 0] 33)))
          have HX89 := Lib.hid (RR.below HX84.out (Below.alloc (Below.refl _ _) (Nat.le_refl _) (.cells #[.int .i64 0, .int .i64 0, .int .i64 0, .int .i64 0, .string { data := #[] }, .string { data := #[] }, .string { data := #[] }, .int .i64 0, .int .i64 0, .string { data := #[] }, .int .i64 0, .slice none 0 0, .int .i64 0, .int .u64 0] 33)))
          have HX90 := Lib.hid (Ty.below HX82.out (Below.alloc (Below.refl _ _) (Nat.le_refl _) (.cells #[.int .i64 0, .int .i64 0, .int .i64 0, .int .i64 0, .string { data := #[] }, .string { data := #[] }, .string { data := #[] }, .int .i64 0, .int .i64 0, .string { data := #[] }, .int .i64 0, .slice none 0 0, .int .i64 0, .int .u64 0] 33)))
          have HX91 := Lib.hid (Ty.below HX85.out (Below.alloc (Below.refl _ _) (Nat.le_refl _) (.cells #[.int .i64 0, .int .i64 0, .int .i64 0, .int .i64 0, .string { data := #[] }, .string { data := #[] }, .string { data := #[] }, .int .i64 0, .int .i64 0, .string { data := #[] }, .int .i64 0, .slice none 0 0, .int .i64 0, .int .u64 0] 33)))
          have HX92 : Hid ((w2.alloc (.cells #[.int .i64 0, .int .i64 0, .int .i64 0, .int .i64 0, .string { data := #[] }, .string { data := #[] }, .string { data := #[] }, .int .i64 0, .int .i64 0, .string { data := #[] }, .int .i64 0, .slice none 0 0, .int .i64 0, .int .u64 0] 33)).heap[w2.heap.size]? = some (.cells #[.int .i64 0, .int .i64 0, .int .i64 0, .int .i64 0, .string { data := #[] }, .string { data := #[] }, .string { data := #[] }, .int .i64 0, .int .i64 0, .string { data := #[] }, .int .i64 0, .slice none 0 0, .int .i64 0, .int .u64 0] 33 (0, 0))) := heap_at (by first | rfl | simp)
          have HW93 : W0.heap.size ≤ w2.heap.size := by have h := HS83.out.size; first | exact h | (simp only [World.size_alloc] at h; first | exact h | omega) | omega
          have HN94 : w2.heap.size ≠ w1.heap.size := by have h := (Array.getElem?_eq_some_iff.1 HX80.out).1; first | omega | (simp only [World.size_alloc] at h; omega)
          refine ⟨HS86.out, ?_⟩
          refine ⟨by kernel_rfl, ?_⟩
          exact ⟨w2.heap.size, w1.heap.size, A5, c5, A6, c6, rfl, zer_mk HX92.out HX87.out HS86.out HX88.out HX89.out HX90.out HX91.out HN94 HW93 HW79⟩
        · refine wpOp_of_list rfl ?_
          go_wp2
          have HS95 : Hid (Below W0.heap.size W0 ((w1.alloc (.cells #[.int .i64 0, .int .i64 0, .int .i64 0, .int .i64 0, .string { data := #[] }, .string { data := #[] }, .string { data := #[] }, .int .i64 0, .int .i64 0, .string { data := #[] }, .int .i64 0, .slice none 0 0, .int .i64 0, .int .u64 0] 33)).alloc (.cells #[.int .i64 0, .int .i64 0, .int .i64 0, .int .i64 0, .string { data := #[] }, .string { data := #[] }, .string { data := #[] }, .int .i64 0, .int .i64 0, .string { data := #[] }, .int .i64 0, .slice none 0 0, .int .i64 0, .int .u64 0] 33))) := Below.alloc HS75.out HS75.out.size (.cells #[.int .i64 0, .int .i64 0, .int .i64 0, .int .i64 0, .string { data := #[] }, .string { data := #[] }, .string { data := #[] }, .int .i64 0, .int .i64 0, .string { data := #[] }, .int .i64 0, .slice none 0 0, .int .i64 0, .int .u64 0] 33)
          have HX96 := Lib.hid (block_old HX78.out (.cells #[.int .i64 0, .int .i64 0, .int .i64 0, .int .i64 0, .string { data := #[] }, .string { data := #[] }, .string { data := #[] }, .int .i64 0, .int .i64 0, .string { data := #[] }, .int .i64 0, .slice none 0 0, .int .i64 0, .int .u64 0] 33))
          have HX97 := Lib.hid (RR.below HX76.out (Below.alloc (Below.refl _ _) (Nat.le_refl _) (.cells #[.int .i64 0, .int .i64 0, .int .i64 0, .int .i64 0, .string { data := #[] }, .string { data := #[] }, .string { data := #[] }, .int .i64 0, .int .i64 0, .string { data := #[] }, .int .i64 0, .slice none 0 0, .int .i64 0, .int .u64 0] 33)))
          have HX98 := Lib.hid (Ty.below HX77.out (Below.alloc (Below.refl _ _) (Nat.le_refl _) (.cells #[.int .i64 0, .int .i64 0, .int .i64 0, .int .i64 0, .string { data := #[] }, .string { data := #[] }, .string { data := #[] }, .int .i64 0, .int .i64 0, .string { data := #[] }, .int .i64 0, .slice none 0 0, .int .i64 0, .int .u64 0] 33)))
          have HX99 : Hid (((w1.alloc (.cells #[.int .i64 0, .int .i64 0, .int .i64 0, .int .i64 0, .string { data := #[] }, .string { data := #[] }, .string { data := #[] }, .int .i64 0, .int .i64 0, .string { data := #[] }, .int .i64 0, .slice none 0 0, .int .i64 0, .int .u64 0] 33)).alloc (.cells #[.int .i64 0, .int .i64 0, .int .i64 0, .int .i64 0, .string { data := #[] }, .string { data := #[] }, .string { data := #[] }, .int .i64 0, .int .i64 0, .string { data := #[] }, .int .i64 0, .slice none 0 0, .int .i64 0, .int .u64 0] 33)).heap[w1.heap.size + 1]? = some (.cells #[.int .i64 0, .int .i64 0, .int .i64 0, .int .i64 0, .string { data := #[] }, .string { data := #[] }, .string { data := #[] }, .int .i64 0, .int .i64 0, .string { data := #[] }, .int .i64 0, .slice none 0 0, .int .i64 0, .int .u64 0] 33 (0, 0))) := heap_at (by first | rfl | simp)
          have HW100 : W0.heap.size ≤ w1.heap.size + 1 := by have h := HS75.out.size; first | exact h | (simp only [World.size_alloc] at h; first | exact h | omega) | omega
          have HN101 : w1.heap.size + 1 ≠ w1.heap.size := by have h := (Array.getElem?_eq_some_iff.1 HX78.out).1; first | omega | (simp only [World.size_alloc] at h; omega)
          refine ⟨HS95.out, ?_⟩
          refine wpAnyH_all (rs := [3]) (by kernel_rfl) (by simp) ?_
          intro i hi
          simp only [List.mem_cons, List.not_mem_nil, or_false] at hi
          subst hi
          refine wpOp_of_list rfl ?_
          go_wp2_with (go_at_call 7; refine (HF2.out _ HS95.out).mono ?_; rintro e w2 ⟨A6, c6, rfl, hr, _, ht, hb⟩; have HX102 := Lib.hid (block_kept HX99.out hb); have HX103 := Lib.hid (block_kept HX96.out hb); have HX104 := Lib.hid (RR.below HX97.out hb); have HX105 := Lib.hid (Ty.below HX98.out hb); have HS106 := Lib.hid (Below.trans HS95.out (Below.mono hb HS95.out.size)); have HX107 := Lib.hid hr; have HX108 := Lib.hid ht; have hsz2 := hb.size; clear hb hr ht)
          refine ⟨HS106.out, ?_⟩
          refine ⟨by kernel_rfl, ?_⟩
          exact ⟨w1.heap.size + 1, w1.heap.size, A5, c5, A6, c6, rfl, zer_mk HX102.out HX103.out HS106.out HX104.out HX107.out HX105.out HX108.out HN101 HW100 HW79⟩
    · refine wpOp_of_list rfl ?_
      go_wp2
      have HS109 : Hid (Below W0.heap.size W0 (W0.drew.alloc (.cells #[.int .i64 0, .int .i64 0, .int .i64 0, .int .i64 0, .string { data := #[] }, .string { data := #[] }, .string { data := #[] }, .int .i64 0, .int .i64 0, .string { data := #[] }, .int .i64 0, .slice none 0 0, .int .i64 0, .int .u64 0] 33))) := Below.alloc HS0.out HS0.out.size (.cells #[.int .i64 0, .int .i64 0, .int .i64 0, .int .i64 0, .string { data := #[] }, .string { data := #[] }, .string { data := #[] }, .int .i64 0, .int .i64 0, .string { data := #[] }, .int .i64 0, .slice none 0 0, .int .i64 0, .int .u64 0] 33)
      have HX110 : Hid ((W0.drew.alloc (.cells #[.int .i64 0, .int .i64 0, .int .i64 0, .int .i64 0, .string { data := #[] }, .string { data := #[] }, .string { data := #[] }, .int .i64 0, .int .i64 0, .string { data := #[] }, .int .i64 0, .slice none 0 0, .int .i64 0, .int .u64 0] 33)).heap[W0.heap.size]? = some (.cells #[.int .i64 0, .int .i64 0, .int .i64 0, .int .i64 0, .string { data := #[] }, .string { data := #[] }, .string { data := #[] }, .int .i64 0, .int .i64 0, .string { data := #[] }, .int .i64 0, .slice none 0 0, .int .i64 0, .int .u64 0] 33 (0, 0))) := heap_at (by first | rfl | simp)
      have HW111 : W0.heap.size ≤ W0.heap.size := by have h := HS0.out.size; first | exact h | (simp only [World.size_alloc] at h; first | exact h | omega) | omega
      refine ⟨HS109.out, ?_⟩
      refine wpAnyH_all (rs := [1, 5]) (by kernel_rfl) (by simp) ?_
      intro i hi
      simp only [List.mem_cons, List.not_mem_nil, or_false] at hi
      rcases hi with rfl | rfl
      · refine wpOp_of_list rfl ?_
        go_wp2_with (go_at_call 7; refine (HF1.out _ HS109.out).mono ?_; rintro e w1 ⟨A5, c5, rfl, hr, _, ht, hb⟩; have HX112 := Lib.hid (block_kept HX110.out hb); have HS113 := Lib.hid (Below.trans HS109.out (Below.mono hb HS109.out.size)); have HX114 := Lib.hid hr; have HX115 := Lib.hid ht; have hsz1 := hb.size; clear hb hr ht)
        refine ⟨HS113.out, ?_⟩
        refine wpAnyH_all (rs := [3, 5]) (by kernel_rfl) (by simp) ?_
        intro i hi
        simp only [List.mem_cons, List.not_mem_nil, or_false] at hi
        rcases hi with rfl | rfl
        · refine wpOp_of_list rfl ?_
          go_wp2_with (go_at_call 7; refine (HF2.out _ HS113.out).mono ?_; rintro e w2 ⟨A6, c6, rfl, hr, _, ht, hb⟩; have HX116 := Lib.hid (block_kept HX112.out hb); have HX117 := Lib.hid (RR.below HX114.out hb); have HX118 := Lib.hid (Ty.below HX115.out hb); have HS119 := Lib.hid (Below.trans HS113.out (Below.mono hb HS113.out.size)); have HX120 := Lib.hid hr; have HX121 := Lib.hid ht; have hsz2 := hb.size; clear hb hr ht)
          refine ⟨HS119.out, ?_⟩
          refine wpAnyH_all (rs := [5]) (by kernel_rfl) (by simp) ?_
          intro i hi
          simp only [List.mem_cons, List.not_mem_nil, or_false] at hi
          subst hi
          refine wpOp_of_list rfl ?_
          go_wp2
          have HS122 : Hid (Below W0.heap.size W0 (w2.alloc (.cells #[.int .i64 0, .int .i64 0, .int .i64 0, .int .i64 0, .string { data := #[] }, .string { data := #[] }, .string { data := #[] }, .int .i64 0, .int .i64 0, .string { data := #[] }, .int .i64 0, .slice none 0 0, .int .i64 0, .int .u64 0] 33))) := Below.alloc HS119.out HS119.out.size (.cells #[.int .i64 0, .int .i64 0, .int .i64 0, .int .i64 0, .string { data := #[] }, .string { data := #[] }, .string { data := #[] }, .int .i64 0, .int .i64 0, .string { data := #[] }, .int .i64 0, .slice none 0 0, .int .i64 0, .int .u64 0] 33)
          have HX123 := Lib.hid (block_old HX116.out (.cells #[.int .i64 0, .int .i64 0, .int .i64 0, .int .i64 0, .string { data := #[] }, .string { data := #[] }, .string { data := #[] }, .int .i64 0, .int .i64 0, .string { data := #[] }, .int .i64 0, .slice none 0 0, .int .i64 0, .int .u64 0] 33))
          have HX124 := Lib.hid (RR.below HX117.out (Below.alloc (Below.refl _ _) (Nat.le_refl _) (.cells #[.int .i64 0, .int .i64 0, .int .i64 0, .int .i64 0, .string { data := #[] }, .string { data := #[] }, .string { data := #[] }, .int .i64 0, .int .i64 0, .string { data := #[] }, .int .i64 0, .slice none 0 0, .int .i64 0, .int .u64 0] 33)))
          have HX125 := Lib.hid (RR.below HX120.out (Below.alloc (Below.refl _ _) (Nat.le_refl _) (.cells #[.int .i64 0, .int .i64 0, .int .i64 0, .int .i64 0, .string { data := #[] }, .string { data := #[] }, .string { data := #[] }, .int .i64 0, .int .i64 0, .string { data := #[] }, .int .i64 0, .slice none 0 0, .int .i64 0, .int .u64 0] 33)))
          have HX126 := Lib.hid (Ty.below HX118.out (Below.alloc (Below.refl _ _) (Nat.le_refl _) (.cells #[.int .i64 0, .int .i64 0, .int .i64 0, .int .i64 0, .string { data := #[] }, .string { data := #[] }, .string { data := #[] }, .int .i64 0, .int .i64 0, .string { data := #[] }, .int .i64 0, .slice none 0 0, .int .i64 0, .int .u64 0] 33)))
          have HX127 := Lib.hid (Ty.below HX121.out (Below.alloc (Below.refl _ _) (Nat.le_refl _) (.cells #[.int .i64 0, .int .i64 0, .int .i64 0, .int .i64 0, .string { data := #[] }, .string { data := #[] }, .string { data := #[] }, .int .i64 0, .int .i64 0, .string { data := #[] }, .int .i64 0, .slice none 0 0, .int .i64 0, .int .u64 0] 33)))
          have HX128 : Hid ((w2.alloc (.cells #[.int .i64 0, .int .i64 0, .int .i64 0, .int .i64 0, .string { data := #[] }, .string { data := #[] }, .string { data := #[] }, .int .i64 0, .int .i64 0, .string { data := #[] }, .int .i64 0, .slice none 0 0, .int .i64 0, .int .u64 0] 33)).heap[w2.heap.size]? = some (.cells #[.int .i64 0, .int .i64 0, .int .i64 0, .int .i64 0, .string { data := #[] }, .string { data := #[] }, .string { data := #[] }, .int .i64 0, .int .i64 0, .string { data := #[] }, .int .i64 0, .slice none 0 0, .int .i64 0, .int .u64 0] 33 (0, 0))) := heap_at (by first | rfl | simp)
          have HW129 : W0.heap.size ≤ w2.heap.size := by have h := HS119.out.size; first | exact h | (simp only [World.size_alloc] at h; first | exact h | omega) | omega
          have HN130 : W0.heap.size ≠ w2.heap.size := by have h := (Array.getElem?_eq_some_iff.1 HX116.out).1; first | omega | (simp only [World.size_alloc] at h; omega)
          refine ⟨HS122.out, ?_⟩
          refine ⟨by kernel_rfl, ?_⟩
          exact ⟨W0.heap.size, w2.heap.size, A5, c5, A6, c6, rfl, zer_mk HX123.out HX128.out HS122.out HX124.out HX125.out HX126.out HX127.out HN130 HW111 HW129⟩
        · refine wpOp_of_list rfl ?_
          go_wp2
          have HS131 : Hid (Below W0.heap.size W0 (w1.alloc (.cells #[.int .i64 0, .int .i64 0, .int .i64 0, .int .i64 0, .string { data := #[] }, .string { data := #[] }, .string { data := #[] }, .int .i64 0, .int .i64 0, .string { data := #[] }, .int .i64 0, .slice none 0 0, .int .i64 0, .int .u64 0] 33))) := Below.alloc HS113.out HS113.out.size (.cells #[.int .i64 0, .int .i64 0, .int .i64 0, .int .i64 0, .string { data := #[] }, .string { data := #[] }, .string { data := #[] }, .int .i64 0, .int .i64 0, .string { data := #[] }, .int .i64 0, .slice none 0 0, .int .i64 0, .int .u64 0] 33)
          have HX132 := Lib.hid (block_old HX112.out (.cells #[.int .i64 0, .int .i64 0, .int .i64 0, .int .i64 0, .string { data := #[] }, .string { data := #[] }, .string { data := #[] }, .int .i64 0, .int .i64 0, .string { data := #[] }, .int .i64 0, .slice none 0 0, .int .i64 0, .int .u64 0] 33))
          have HX133 := Lib.hid (RR.below HX114.out (Below.alloc (Below.refl _ _) (Nat.le_refl _) (.cells #[.int .i64 0, .int .i64 0, .int .i64 0, .int .i64 0, .string { data := #[] }, .string { data := #[] }, .string { data := #[] }, .int .i64 0, .int .i64 0, .string { data := #[] }, .int .i64 0, .slice none 0 0, .int .i64 0, .int .u64 0] 33)))
          have HX134 := Lib.hid (Ty.below HX115.out (Below.alloc (Below.refl _ _) (Nat.le_refl _) (.cells #[.int .i64 0, .int .i64 0, .int .i64 0, .int .i64 0, .string { data := #[] }, .string { data := #[] }, .string { data := #[] }, .int .i64 0, .int .i64 0, .string { data := #[] }, .int .i64 0, .slice none 0 0, .int .i64 0, .int .u64 0] 33)))
          have HX135 : Hid ((w1.alloc (.cells #[.int .i64 0, .int .i64 0, .int .i64 0, .int .i64 0, .string { data := #[] }, .string { data := #[] }, .string { data := #[] }, .int .i64 0, .int .i64 0, .string { data := #[] }, .int .i64 0, .slice none 0 0, .int .i64 0, .int .u64 0] 33)).heap[w1.heap.size]? = some (.cells #[.int .i64 0, .int .i64 0, .int .i64 0, .int .i64 0, .string { data := #[] }, .string { data := #[] }, .string { data := #[] }, .int .i64 0, .int .i64 0, .string { data := #[] }, .int .i64 0, .slice none 0 0, .int .i64 0, .int .u64 0] 33 (0, 0))) := heap_at (by first | rfl | simp)
          have HW136 : W0.heap.size ≤ w1.heap.size := by have h := HS113.out.size; first | exact h | (simp only [World.size_alloc] at h; first | exact h | omega) | omega
          have HN137 : W0.heap.size ≠ w1.heap.size := by have h := (Array.getElem?_eq_some_iff.1 HX112.out).1; first | omega | (simp only [World.size_alloc] at h; omega)
          refine ⟨HS131.out, ?_⟩
          refine wpAnyH_all (rs := [3]) (by kernel_rfl) (by simp) ?_
          intro i hi
          simp only [List.mem_cons, List.not_mem_nil, or_false] at hi
          subst hi
          refine wpOp_of_list rfl ?_
          go_wp2_with (go_at_call 7; refine (HF2.out _ HS131.out).mono ?_; rintro e w2 ⟨A6, c6, rfl, hr, _, ht, hb⟩; have HX138 := Lib.hid (block_kept HX132.out hb); have HX139 := Lib.hid (block_kept HX135.out hb); have HX140 := Lib.hid (RR.below HX133.out hb); have HX141 := Lib.hid (Ty.below HX134.out hb); have HS142 := Lib.hid (Below.trans HS131.out (Below.mono hb HS131.out.size)); have HX143 := Lib.hid hr; have HX144 := Lib.hid ht; have hsz2 := hb.size; clear hb hr ht)
          refine ⟨HS142.out, ?_⟩
          refine ⟨by kernel_rfl, ?_⟩
          exact ⟨W0.heap.size, w1.heap.size, A5, c5, A6, c6, rfl, zer_mk HX138.out HX139.out HS142.out HX140.out HX143.out HX141.out HX144.out HN137 HW111 HW136⟩
      · refine wpOp_of_list rfl ?_
        go_wp2
        have HS145 : Hid (Below W0.heap.size W0 ((W0.drew.alloc (.cells #[.int .i64 0, .int .i64 0, .int .i64 0, .int .i64 0, .string { data := #[] }, .string { data := #[] }, .string { data := #[] }, .int .i64 0, .int .i64 0, .string { data := #[] }, .int .i64 0, .slice none 0 0, .int .i64 0, .int .u64 0] 33)).alloc (.cells #[.int .i64 0, .int .i64 0, .int .i64 0, .int .i64 0, .string { data := #[] }, .string { data := #[] }, .string { data := #[] }, .int .i64 0, .int .i64 0, .string { data := #[] }, .int .i64 0, .slice none 0 0, .int .i64 0, .int .u64 0] 33))) := Below.alloc HS109.out HS109.out.size (.cells #[.int .i64 0, .int .i64 0, .int .i64 0, .int .i64 0, .string { data := #[] }, .string { data := #[] }, .string { data := #[] }, .int .i64 0, .int .i64 0, .string { data := #[] }, .int .i64 0, .slice none 0 0, .int .i64 0, .int .u64 0] 33)
        have HX146 := Lib.hid (block_old HX110.out (.cells #[.int .i64 0, .int .i64 0, .int .i64 0, .int .i64 0, .string { data := #[] }, .string { data := #[] }, .string { data := #[] }, .int .i64 0, .int .i64 0, .string { data := #[] }, .int .i64 0, .slice none 0 0, .int .i64 0, .int .u64 0] 33))
        have HX147 : Hid (((W0.drew.alloc (.cells #[.int .i64 0, .int .i64 0, .int .i64 0, .int .i64 0, .string { data := #[] }, .string { data := #[] }, .string { data := #[] }, .int .i64 0, .int .i64 0, .string { data := #[] }, .int .i64 0, .slice none 0 0, .int .i64 0, .int .u64 0] 33)).alloc (.cells #[.int .i64 0, .int .i64 0, .int .i64 0, .int .i64 0, .string { data := #[] }, .string { data := #[] }, .string { data := #[] }, .int .i64 0, .int .i64 0, .string { data := #[] }, .int .i64 0, .slice none 0 0, .int .i64 0, .int .u64 0] 33)).heap[W0.heap.size + 1]? = some (.cells #[.int .i64 0, .int .i64 0, .int .i64 0, .int .i64 0, .string { data := #[] }, .string { data := #[] }, .string { data := #[] }, .int .i64 0, .int .i64 0, .string { data := #[] }, .int .i64 0, .slice none 0 0, .int .i64 0, .int .u64 0] 33 (0, 0))) := heap_at (by first | rfl | simp)
        have HW148 : W0.heap.size ≤ W0.heap.size + 1 := by have h := HS109.out.size; first | exact h | (simp only [World.size_alloc] at h; first | exact h | omega) | omega
        have HN149 : W0.heap.size ≠ W0.heap.size + 1 := by have h := (Array.getElem?_eq_some_iff.1 HX110.out).1; first | omega | (simp only [World.size_alloc] at h; omega)
        refine ⟨HS145.out, ?_⟩
        refine wpAnyH_all (rs := [1]) (by kernel_rfl) (by simp) ?_
        intro i hi
        simp only [List.mem_cons, List.not_mem_nil, or_false] at hi
        subst hi
        refine wpOp_of_list rfl ?_
        go_wp2_with (go_at_call 7; refine (HF1.out _ HS145.out).mono ?_; rintro e w1 ⟨A5, c5, rfl, hr, _, ht, hb⟩; have HX150 := Lib.hid (block_kept HX146.out hb); have HX151 := Lib.hid (block_kept HX147.out hb); have HS152 := Lib.hid (Below.trans HS145.out (Below.mono hb HS145.out.size)); have HX153 := Lib.hid hr; have HX154 := Lib.hid ht; have hsz1 := hb.size; clear hb hr ht)
        refine ⟨HS152.out, ?_⟩
        refine wpAnyH_all (rs := [3]) (by kernel_rfl) (by simp) ?_
        intro i hi
        simp only [List.mem_cons, List.not_mem_nil, or_false] at hi
        subst hi
        refine wpOp_of_list rfl ?_
        go_wp2_with (go_at_call 7; refine (HF2.out _ HS152.out).mono ?_; rintro e w2 ⟨A6, c6, rfl, hr, _, ht, hb⟩; have HX155 := Lib.hid (block_kept HX150.out hb); have HX156 := Lib.hid (block_kept HX151.out hb); have HX157 := Lib.hid (RR.below HX153.out hb); have HX158 := Lib.hid (Ty.below HX154.out hb); have HS159 := Lib.hid (Below.trans HS152.out (Below.mono hb HS152.out.size)); have HX160 := Lib.hid hr; have HX161 := Lib.hid ht; have hsz2 := hb.size; clear hb hr ht)
        refine ⟨HS159.out, ?_⟩
        refine ⟨by kernel_rfl, ?_⟩
        exact ⟨W0.heap.size, W0.heap.size + 1, A5, c5, A6, c6, rfl, zer_mk HX155.out HX156.out HS159.out HX157.out HX160.out HX158.out HX161.out HN149 HW111 HW148⟩
    · refine wpOp_of_list rfl ?_
      go_wp2
      have HS162 : Hid (Below W0.heap.size W0 (W0.drew.alloc (.cells #[.int .i64 0, .int .i64 0, .int .i64 0, .int .i64 0, .string { data := #[] }, .string { data := #[] }, .string { data := #[] }, .int .i64 0, .int .i64 0, .string { data := #[] }, .int .i64 0, .slice none 0 0, .int .i64 0, .int .u64 0] 33))) := Below.alloc HS0.out HS0.out.size (.cells #[.int .i64 0, .int .i64 0, .int .i64 0, .int .i64 0, .string { data := #[] }, .string { data := #[] }, .string { data := #[] }, .int .i64 0, .int .i64 0, .string { data := #[] }, .int .i64 0, .slice none 0 0, .int .i64 0, .int .u64 0] 33)
      have HX163 : Hid ((W0.drew.alloc (.cells #[.int .i64 0, .int .i64 0, .int .i64 0, .int .i64 0, .string { data := #[] }, .string { data := #[] }, .string { data := #[] }, .int .i64 0, .int .i64 0, .string { data := #[] }, .int .i64 0, .slice none 0 0, .int .i64 0, .int .u64 0] 33)).heap[W0.heap.size]? = some (.cells #[.int .i64 0, .int .i64 0, .int .i64 0, .int .i64 0, .string { data := #[] }, .string { data := #[] }, .string { data := #[] }, .int .i64 0, .int .i64 0, .string { data := #[] }, .int .i64 0, .slice none 0 0, .int .i64 0, .int .u64 0] 33 (0, 0))) := heap_at (by first | rfl | simp)
      have HW164 : W0.heap.size ≤ W0.heap.size := by have h := HS0.out.size; first | exact h | (simp only [World.size_alloc] at h; first | exact h | omega) | omega
      refine ⟨HS162.out, ?_⟩
      refine wpAnyH_all (rs := [1, 4]) (by kernel_rfl) (by simp) ?_
      intro i hi
      simp only [List.mem_cons, List.not_mem_nil, or_false] at hi
      rcases hi with rfl | rfl
      · refine wpOp_of_list rfl ?_
        go_wp2_with (go_at_call 7; refine (HF1.out _ HS162.out).mono ?_; rintro e w1 ⟨A5, c5, rfl, hr, _, ht, hb⟩; have HX165 := Lib.hid (block_kept HX163.out hb); have HS166 := Lib.hid (Below.trans HS162.out (Below.mono hb HS162.out.size)); have HX167 := Lib.hid hr; have HX168 := Lib.hid ht; have hsz1 := hb.size; clear hb hr ht)
        refine ⟨HS166.out, ?_⟩
        refine wpAnyH_all (rs := [3, 4]) (by kernel_rfl) (by simp) ?_
        intro i hi
        simp only [List.mem_cons, List.not_mem_nil, or_false] at hi
        rcases hi with rfl | rfl
        · refine wpOp_of_list rfl ?_
          go_wp2_with (go_at_call 7; refine (HF2.out _ HS166.out).mono ?_; rintro e w2 ⟨A6, c6, rfl, hr, _, ht, hb⟩; have HX169 := Lib.hid (block_kept HX165.out hb); have HX170 := Lib.hid (RR.below HX167.out hb); have HX171 := Lib.hid (Ty.below HX168.out hb); have HS172 := Lib.hid (Below.trans HS166.out (Below.mono hb HS166.out.size)); have HX173 := Lib.hid hr; have HX174 := Lib.hid ht; have hsz2 := hb.size; clear hb hr ht)
          refine ⟨HS172.out, ?_⟩
          refine wpAnyH_all (rs := [4]) (by kernel_rfl) (by simp) ?_
          intro i hi
          simp only [List.mem_cons, List.not_mem_nil, or_false] at hi
          subst hi
          refine wpOp_of_list rfl ?_
          go_wp2
          have HS175 : Hid (Below W0.heap.size W0 (w2.alloc (.cells #[.int .i64 0, .int .i64 0, .int .i64 0, .int .i64 0, .string { data := #[] }, .string { data := #[] }, .string { data := #[] }, .int .i64 0, .int .i64 0, .string { data := #[] }, .int .i64 0, .slice none 0 0, .int .i64 0, .int .u64 0] 33))) := Below.alloc HS172.out HS172.out.size (.cells #[.int .i64 0, .int .i64 0, .int .i64 0, .int .i64 0, .string { data := #[] }, .string { data := #[] }, .string { data := #[] }, .int .i64 0, .int .i64 0, .string { data := #[] }, .int .i64 0, .slice none 0 0, .int .i64 0, .int .u64 0] 33)
          have HX176 := Lib.hid (block_old HX169.out (.cells #[.int .i64 0, .int .i64 0, .int .i64 0, .int .i64 0, .string { data := #[] }, .string { data := #[] }, .string { data := #[] }, .int .i64 0, .int .i64 0, .string { data := #[] }, .int .i64 0, .slice none 0 0, .int .i64 0, .int .u64 0] 33))
          have HX177 := Lib.hid (RR.below HX170.out (Below.alloc (Below.refl _ _) (Nat.le_refl _) (.cells #[.int .i64 0, .int .i64 0, .int .i64 0, .int .i64 0, .string { data := #[] }, .string { data := #[] }, .string { data := #[] }, .int .i64 0, .int .i64 0, .string { data := #[] }, .int .i64 0, .slice none 0 0, .int .i64 0, .int .u64 0] 33)))
          have HX178 := Lib.hid (RR.below HX173.out (Below.alloc (Below.refl _ _) (Nat.le_refl _) (.cells #[.int .i64 0, .int .i64 0, .int .i64 0, .int .i64 0, .string { data := #[] }, .string { data := #[] }, .string { data := #[] }, .int .i64 0, .int .i64 0, .string { data := #[] }, .int .i64 0, .slice none 0 0, .int .i64 0, .int .u64 0] 33)))
          have HX179 := Lib.hid (Ty.below HX171.out (Below.alloc (Below.refl _ _) (Nat.le_refl _) (.cells #[.int .i64 0, .int .i64 0, .int .i64 0, .int .i64 0, .string { data := #[] }, .string { data := #[] }, .string { data := #[] }, .int .i64 0, .int .i64 0, .string { data := #[] }, .int .i64 0, .slice none 0 0, .int .i64 0, .int .u64 0] 33)))
          have HX180 := Lib.hid (Ty.below HX174.out (Below.alloc (Below.refl _ _) (Nat.le_refl _) (.cells #[.int .i64 0, .int .i64 0, .int .i64 0, .int .i64 0, .string { data := #[] }, .string { data := #[] }, .string { data := #[] }, .int .i64 0, .int .i64 0, .string { data := #[] }, .int .i64 0, .slice none 0 0, .int .i64 0, .int .u64 0] 33)))
          have HX181 : Hid ((w2.alloc (.cells #[.int .i64 0, .int .i64 0, .int .i64 0, .int .i64 0, .string { data := #[] }, .string { data := #[] }, .string { data := #[] }, .int .i64 0, .int .i64 0, .string { data := #[] }, .int .i64 0, .slice none 0 0, .int .i64 0, .int .u64 0] 33)).heap[w2.heap.size]? = some (.cells #[.int .i64 0, .int .i64 0, .int .i64 0, .int .i64 0, .string { data := #[] }, .string { data := #[] }, .string { data := #[] }, .int .i64 0, .int .i64 0, .string { data := #[] }, .int .i64 0, .slice none 0 0, .int .i64 0, .int .u64 0] 33 (0, 0))) := heap_at (by first | rfl | simp)
          have HW182 : W0.heap.size ≤ w2.heap.size := by have h := HS172.out.size; first | exact h | (simp only [World.size_alloc] at h; first | exact h | omega) | omega
          have HN183 : w2.heap.size ≠ W0.heap.size := by have h := (Array.getElem?_eq_some_iff.1 HX169.out).1; first | omega | (simp only [World.size_alloc] at h; omega)
          refine ⟨HS175.out, ?_⟩
          refine ⟨by kernel_rfl, ?_⟩
          exact ⟨w2.heap.size, W0.heap.size, A5, c5, A6, c6, rfl, zer_mk HX181.out HX176.out HS175.out HX177.out HX178.out HX179.out HX180.out HN183 HW182 HW164⟩
        · refine wpOp_of_list rfl ?_
          go_wp2
          have HS184 : Hid (Below W0.heap.size W0 (w1.alloc (.cells #[.int .i64 0, .int .i64 0, .int .i64 0, .int .i64 0, .string { data := #[] }, .string { data := #[] }, .string { data := #[] }, .int .i64 0, .int .i64 0, .string { data := #[] }, .int .i64 0, .slice none 0 0, .int .i64 0, .int .u64 0] 33))) := Below.alloc HS166.out HS166.out.size (.cells #[.int .i64 0, .int .i64 0, .int .i64 0, .int .i64 0, .string { data := #[] }, .string { data := #[] }, .string { data := #[] }, .int .i64 0, .int .i64 0, .string { data := #[] }, .int .i64 0, .slice none 0 0, .int .i64 0, .int .u64 0] 33)
          have HX185 := Lib.hid (block_old HX165.out (.cells #[.int .i64 0, .int .i64 0, .int .i64 0, .int .i64 0, .string { data := #[] }, .string { data := #[] }, .string { data := #[] }, .int .i64 0, .int .i64 0, .string { data := #[] }, .int .i64 0, .slice none 0 0, .int .i64 0, .int .u64 0] 33))
          have HX186 := Lib.hid (RR.below HX167.out (Below.alloc (Below.refl _ _) (Nat.le_refl _) (.cells #[.int .i64 0, .int .i64 0, .int .i64 0, .int .i64 0, .string { data := #[] }, .string { data := #[] }, .string { data := #[] }, .int .i64 0, .int .i64 0, .string { data := #[] }, .int .i64 0, .slice none 0 0, .int .i64 0, .int .u64 0] 33)))
          have HX187 := Lib.hid (Ty.below HX168.out (Below.alloc (Below.refl _ _) (Nat.le_refl _) (.cells #[.int .i64 0, .int .i64 0, .int .i64 0, .int .i64 0, .string { data := #[] }, .string { data := #[] }, .string { data := #[] }, .int .i64 0, .int .i64 0, .string { data := #[] }, .int .i64 0, .slice none 0 0, .int .i64 0, .int .u64 0] 33)))
          have HX188 : Hid ((w1.alloc (.cells #[.int .i64 0, .int .i64 0, .int .i64 0, .int .i64 0, .string { data := #[] }, .string { data := #[] }, .string { data := #[] }, .int .i64 0, .int .i64 0, .string { data := #[] }, .int .i64 0, .slice none 0 0, .int .i64 0, .int .u64 0] 33)).heap[w1.heap.size]? = some (.cells #[.int .i64 0, .int .i64 0, .int .i64 0, .int .i64 0, .string { data := #[] }, .string { data := #[] }, .string { data := #[] }, .int .i64 0, .int .i64 0, .string { data := #[] }, .int .i64 0, .slice none 0 0, .int .i64 0, .int .u64 0] 33 (0, 0))) := heap_at (by first | rfl | simp)
          have HW189 : W0.heap.size ≤ w1.heap.size := by have h := HS166.out.size; first | exact h | (simp only [World.size_alloc] at h; first | exact h | omega) | omega
          have HN190 : w1.heap.size ≠ W0.heap.size := by have h := (Array.getElem?_eq_some_iff.1 HX165.out).1; first | omega | (simp only [World.size_alloc] at h; omega)
          refine ⟨HS184.out, ?_⟩
          refine wpAnyH_all (rs := [3]) (by kernel_rfl) (by simp) ?_
          intro i hi
          simp only [List.mem_cons, List.not_mem_nil, or_false] at hi
          subst hi
          refine wpOp_of_list rfl ?_
          go_wp2_with (go_at_call 7; refine (HF2.out _ HS184.out).mono ?_; rintro e w2 ⟨A6, c6, rfl, hr, _, ht, hb⟩; have HX191 := Lib.hid (block_kept HX188.out hb); have HX192 := Lib.hid (block_kept HX185.out hb); have HX193 := Lib.hid (RR.below HX186.out hb); have HX194 := Lib.hid (Ty.below HX187.out hb); have HS195 := Lib.hid (Below.trans HS184.out (Below.mono hb HS184.out.size)); have HX196 := Lib.hid hr; have HX197 := Lib.hid ht; have hsz2 := hb.size; clear hb hr ht)
          refine ⟨HS195.out, ?_⟩
          refine ⟨by kernel_rfl, ?_⟩
          exact ⟨w1.heap.size, W0.heap.size, A5, c5, A6, c6, rfl, zer_mk HX191.out HX192.out HS195.out HX193.out HX196.out HX194.out HX197.out HN190 HW189 HW164⟩
      · refine wpOp_of_list rfl ?_
        go_wp2
        have HS198 : Hid (Below W0.heap.size W0 ((W0.drew.alloc (.cells #[.int .i64 0, .int .i64 0, .int .i64 0, .int .i64 0, .string { data := #[] }, .string { data := #[] }, .string { data := #[] }, .int .i64 0, .int .i64 0, .string { data := #[] }, .int .i64 0, .slice none 0 0, .int .i64 0, .int .u64 0] 33)).alloc (.cells #[.int .i64 0, .int .i64 0, .int .i64 0, .int .i64 0, .string { data := #[] }, .string { data := #[] }, .string { data := #[] }, .int .i64 0, .int .i64 0, .string { data := #[] }, .int .i64 0, .slice none 0 0, .int .i64 0, .int .u64 0] 33))) := Below.alloc HS162.out HS162.out.size (.cells #[.int .i64 0, .int .i64 0, .int .i64 0, .int .i64 0, .string { data := #[] }, .string { data := #[] }, .string { data := #[] }, .int .i64 0, .int .i64 0, .string { data := #[] }, .int .i64 0, .slice none 0 0, .int .i64 0, .int .u64 0] 33)
        have HX199 := Lib.hid (block_old HX163.out (.cells #[.int .i64 0, .int .i64 0, .int .i64 0, .int .i64 0, .string { data := #[] }, .string { data := #[] }, .string { data := #[] }, .int .i64 0, .int .i64 0, .string { data := #[] }, .int .i64 0, .slice none 0 0, .int .i64 0, .int .u64 0] 33))
        have HX200 : Hid (((W0.drew.alloc (.cells #[.int .i64 0, .int .i64 0, .int .i64 0, .int .i64 0, .string { data := #[] }, .string { data := #[] }, .string { data := #[] }, .int .i64 0, .int .i64 0, .string { data := #[] }, .int .i64 0, .slice none 0 0, .int .i64 0, .int .u64 0] 33)).alloc (.cells #[.int .i64 0, .int .i64 0, .int .i64 0, .int .i64 0, .string { data := #[] }, .string { data := #[] }, .string { data := #[] }, .int .i64 0, .int .i64 0, .string { data := #[] }, .int .i64 0, .slice none 0 0, .int .i64 0, .int .u64 0] 33)).heap[W0.heap.size + 1]? = some (.cells #[.int .i64 0, .int .i64 0, .int .i64 0, .int .i64 0, .string { data := #[] }, .string { data := #[] }, .string { data := #[] }, .int .i64 0, .int .i64 0, .string { data := #[] }, .int .i64 0, .slice none 0 0, .int .i64 0, .int .u64 0] 33 (0, 0))) := heap_at (by first | rfl | simp)
        have HW201 : W0.heap.size ≤ W0.heap.size + 1 := by have h := HS162.out.size; first | exact h | (simp only [World.size_alloc] at h; first | exact h | omega) | omega
        have HN202 : W0.heap.size + 1 ≠ W0.heap.size := by have h := (Array.getElem?_eq_some_iff.1 HX163.out).1; first | omega | (simp only [World.size_alloc] at h; omega)
        refine ⟨HS198.out, ?_⟩
        refine wpAnyH_all (rs := [1]) (by kernel_rfl) (by simp) ?_
        intro i hi
        simp only [List.mem_cons, List.not_mem_nil, or_false] at hi
        subst hi
        refine wpOp_of_list rfl ?_
        go_wp2_with (go_at_call 7; refine (HF1.out _ HS198.out).mono ?_; rintro e w1 ⟨A5, c5, rfl, hr, _, ht, hb⟩; have HX203 := Lib.hid (block_kept HX200.out hb); have HX204 := Lib.hid (block_kept HX199.out hb); have HS205 := Lib.hid (Below.trans HS198.out (Below.mono hb HS198.out.size)); have HX206 := Lib.hid hr; have HX207 := Lib.hid ht; have hsz1 := hb.size; clear hb hr ht)
        refine ⟨HS205.out, ?_⟩
        refine wpAnyH_all (rs := [3]) (by kernel_rfl) (by simp) ?_
        intro i hi
        simp only [List.mem_cons, List.not_mem_nil, or_false] at hi
        subst hi
        refine wpOp_of_list rfl ?_
        go_wp2_with (go_at_call 7; refine (HF2.out _ HS205.out).mono ?_; rintro e w2 ⟨A6, c6, rfl, hr, _, ht, hb⟩; have HX208 := Lib.hid (block_kept HX203.out hb); have HX209 := Lib.hid (block_kept HX204.out hb); have HX210 := Lib.hid (RR.below HX206.out hb); have HX211 := Lib.hid (Ty.below HX207.out hb); have HS212 := Lib.hid (Below.trans HS205.out (Below.mono hb HS205.out.size)); have HX213 := Lib.hid hr; have HX214 := Lib.hid ht; have hsz2 := hb.size; clear hb hr ht)
        refine ⟨HS212.out, ?_⟩
        refine ⟨by kernel_rfl, ?_⟩
        exact ⟨W0.heap.size + 1, W0.heap.size, A5, c5, A6, c6, rfl, zer_mk HX208.out HX209.out HS212.out HX210.out HX213.out HX211.out HX214.out HN202 HW201 HW164⟩
  case rest =>
    rintro _ wz ⟨b5, b6, A5, c5, A6, c6, rfl, hz⟩
    simp only [List.drop_succ_cons, List.drop_zero]
    have hL := zer_lay (by decide) x y c5 c6 hz
    obtain ⟨⟨d0, d1, d2, d3, d4, d5, d6⟩, d7, d8, d9, d10, d11, d12, d13⟩ := blk14 hz.1
    obtain ⟨⟨e0, e1, e2, e3, e4, e5, e6⟩, e7, e8, e9, e10, e11, e12, e13⟩ := blk14 hz.2.1
    have fd := fro14 hz.1
    have fe := fro14 hz.2.1
    have hne := hz.2.2.1
    have hne2 := Ne.symm hne
    have HL := Lib.hid hL
    clear hz hL X Y
    go_upto_region 2 with fail
    clear d0 d1 d2 d3 d4 d5 d6 d7 d8 d9 d10 d11 d12 d13 e0 e1 e2 e3 e4 e5 e6 e7 e8 e9 e10 e11 e12 e13 fd fe hne hne2
    generalize ((((((((((((((((((((((((((((wz).setCell ⟨b5, 0, none⟩ (.int .i64 x.k)).setCell ⟨b5, 1, none⟩ (.int .i64 x.p)).setCell ⟨b5, 2, none⟩ (.int .i64 x.d)).setCell ⟨b5, 3, none⟩ (.int .i64 x.t.n)).setCell ⟨b5, 4, none⟩ (.string x.t.b)).setCell ⟨b5, 5, none⟩ (.string x.t.s)).setCell ⟨b5, 6, none⟩ (.string x.t.i)).setCell ⟨b5, 7, none⟩ (.int .i64 x.t.q)).setCell ⟨b5, 8, none⟩ (.int .i64 x.t.p)).setCell ⟨b5, 9, none⟩ (.string x.n)).setCell ⟨b5, 10, none⟩ (.int .i64 x.a)).setCell ⟨b5, 11, none⟩ (.slice A5 lx.length c5)).setCell ⟨b5, 12, none⟩ (.int .i64 x.hi)).setCell ⟨b5, 13, none⟩ (.int .u64 x.lo)).setCell ⟨b6, 0, none⟩ (.int .i64 y.k)).setCell ⟨b6, 1, none⟩ (.int .i64 y.p)).setCell ⟨b6, 2, none⟩ (.int .i64 y.d)).setCell ⟨b6, 3, none⟩ (.int .i64 y.t.n)).setCell ⟨b6, 4, none⟩ (.string y.t.b)).setCell ⟨b6, 5, none⟩ (.string y.t.s)).setCell ⟨b6, 6, none⟩ (.string y.t.i)).setCell ⟨b6, 7, none⟩ (.int .i64 y.t.q)).setCell ⟨b6, 8, none⟩ (.int .i64 y.t.p)).setCell ⟨b6, 9, none⟩ (.string y.n)).setCell ⟨b6, 10, none⟩ (.int .i64 y.a)).setCell ⟨b6, 11, none⟩ (.slice A6 ly.length c6)).setCell ⟨b6, 12, none⟩ (.int .i64 y.hi)).setCell ⟨b6, 13, none⟩ (.int .u64 y.lo) = W1 at HL ⊢
    have L1 := HL.out
    have HR5 := Lib.hid L1.2.2.2.1
    have HR6 := Lib.hid L1.2.2.2.2
    have X := blk14 L1.1
    have Y := blk14 L1.2.1
    have hlx : lx.length ≤ 1000 := by rw [hlx.out, cutR_len]; omega
    have hly : ly.length ≤ 1000 := by rw [hly.out, cutR_len]; omega
    have HF3 : Hid (∀ W, Below W1.heap.size W1 W → Calls Tryd.prog 8 #[.agg #[.int .i64 x.k, .int .i64 x.p, .int .i64 x.d, .int .i64 x.t.n, .string x.t.b, .string x.t.s, .string x.t.i, .int .i64 x.t.q, .int .i64 x.t.p, .string x.n, .int .i64 x.a, .slice A5 lx.length c5, .int .i64 x.hi, .int .u64 x.lo]] W fun e w' => ∃ A' c', e = .returned (.agg #[.int .i64 x.k, .int .i64 x.p, .int .i64 x.d, .int .i64 x.t.n, .string x.t.b, .string x.t.s, .string x.t.i, .int .i64 x.t.q, .int .i64 x.t.p, .string x.n, .int .i64 x.a, .slice A' lx.length c', .int .i64 x.hi, .int .u64 x.lo]) ∧ RR w' A' lx ∧ lx.length ≤ c' ∧ Ty w' A' 57 ∧ Below W.heap.size W w') := fun W hW => of_any W x x rfl A5 lx.length c5 lx (HR5.out.below hW) rfl hlx lx rfl
    have HF4 : Hid (∀ W, Below W1.heap.size W1 W → Calls Tryd.prog 8 #[.agg #[.int .i64 y.k, .int .i64 y.p, .int .i64 y.d, .int .i64 y.t.n, .string y.t.b, .string y.t.s, .string y.t.i, .int .i64 y.t.q, .int .i64 y.t.p, .string y.n, .int .i64 y.a, .slice A6 ly.length c6, .int .i64 y.hi, .int .u64 y.lo]] W fun e w' => ∃ A' c', e = .returned (.agg #[.int .i64 y.k, .int .i64 y.p, .int .i64 y.d, .int .i64 y.t.n, .string y.t.b, .string y.t.s, .string y.t.i, .int .i64 y.t.q, .int .i64 y.t.p, .string y.n, .int .i64 y.a, .slice A' ly.length c', .int .i64 y.hi, .int .u64 y.lo]) ∧ RR w' A' ly ∧ ly.length ≤ c' ∧ Ty w' A' 57 ∧ Below W.heap.size W w') := fun W hW => of_any W y y rfl A6 ly.length c6 ly (HR6.out.below hW) rfl hly ly rfl
    clear L1
    refine wp_region_rel 6 (by kernel_rfl) (by kernel_rfl) (fun a' w' => ∃ b7 b8 A7 c7 A8 c8, a' = { tmps := #[(.agg #[.int .i64 a.k, .int .i64 a.p, .int .i64 a.d, .int .i64 a.t.n, .string a.t.b, .string a.t.s, .string a.t.i, .int .i64 a.t.q, .int .i64 a.t.p, .string a.n, .int .i64 a.a, .slice A n c, .int .i64 a.hi, .int .u64 a.lo]), (.agg #[.int .i64 b.k, .int .i64 b.p, .int .i64 b.d, .int .i64 b.t.n, .string b.t.b, .string b.t.s, .string b.t.i, .int .i64 b.t.q, .int .i64 b.t.p, .string b.n, .int .i64 b.a, .slice B n' c', .int .i64 b.hi, .int .u64 b.lo]), (.pointer (some ⟨w.heap.size, 0, none⟩)), (.pointer (some ⟨w.heap.size + 1, 0, none⟩)), (.bool false), (.pointer (some ⟨b5, 0, none⟩)), (.pointer (some ⟨b6, 0, none⟩)), (.pointer (some ⟨b7, 0, none⟩)), (.pointer (some ⟨b8, 0, none⟩)), (.agg #[.int .i64 a.k, .int .i64 a.p, .int .i64 a.d, .int .i64 a.t.n, .string a.t.b, .string a.t.s, .string a.t.i, .int .i64 a.t.q, .int .i64 a.t.p, .string a.n, .int .i64 a.a, .slice A n c, .int .i64 a.hi, .int .u64 a.lo]), (.agg #[.int .i64 x.k, .int .i64 x.p, .int .i64 x.d, .int .i64 x.t.n, .string x.t.b, .string x.t.s, .string x.t.i, .int .i64 x.t.q, .int .i64 x.t.p, .string x.n, .int .i64 x.a, .slice A5 lx.length c5, .int .i64 x.hi, .int .u64 x.lo]), (.agg #[.int .i64 b.k, .int .i64 b.p, .int .i64 b.d, .int .i64 b.t.n, .string b.t.b, .string b.t.s, .string b.t.i, .int .i64 b.t.q, .int .i64 b.t.p, .string b.n, .int .i64 b.a, .slice B n' c', .int .i64 b.hi, .int .u64 b.lo]), (.agg #[.int .i64 y.k, .int .i64 y.p, .int .i64 y.d, .int .i64 y.t.n, .string y.t.b, .string y.t.s, .string y.t.i, .int .i64 y.t.q, .int .i64 y.t.p, .string y.n, .int .i64 y.a, .slice A6 ly.length c6, .int .i64 y.hi, .int .u64 y.lo]), (.agg #[.int .i64 x.k, .int .i64 x.p, .int .i64 x.d, .int .i64 x.t.n, .string x.t.b, .string x.t.s, .string x.t.i, .int .i64 x.t.q, .int .i64 x.t.p, .string x.n, .int .i64 x.a, .slice A5 lx.length c5, .int .i64 x.hi, .int .u64 x.lo]), (.agg #[.int .i64 x.k, .int .i64 x.p, .int .i64 x.d, .int .i64 x.t.n, .string x.t.b, .string x.t.s, .string x.t.i, .int .i64 x.t.q, .int .i64 x.t.p, .string x.n, .int .i64 x.a, .slice A7 lx.length c7, .int .i64 x.hi, .int .u64 x.lo]), (.agg #[.int .i64 y.k, .int .i64 y.p, .int .i64 y.d, .int .i64 y.t.n, .string y.t.b, .string y.t.s, .string y.t.i, .int .i64 y.t.q, .int .i64 y.t.p, .string y.n, .int .i64 y.a, .slice A6 ly.length c6, .int .i64 y.hi, .int .u64 y.lo]), (.agg #[.int .i64 y.k, .int .i64 y.p, .int .i64 y.d, .int .i64 y.t.n, .string y.t.b, .string y.t.s, .string y.t.i, .int .i64 y.t.q, .int .i64 y.t.p, .string y.n, .int .i64 y.a, .slice A8 ly.length c8, .int .i64 y.hi, .int .u64 y.lo]), undef, undef, undef, undef, undef, undef, undef, undef, undef, undef, undef, undef, undef, undef, undef, undef, undef, undef, undef, undef, undef], defers := [] } ∧ Zer W1 w' b7 b8 27 57 A7 lx A8 ly) ?rest ?first
    case first =>
      simp only [List.take_succ_cons, List.take_zero]
      refine wpAny_of_held (S := fun w' => Below W1.heap.size W1 w') _ _ _ _ ?_
      refine held_step 0 13 (.agg #[.int .i64 x.k, .int .i64 x.p, .int .i64 x.d, .int .i64 x.t.n, .string x.t.b, .string x.t.s, .string x.t.i, .int .i64 x.t.q, .int .i64 x.t.p, .string x.n, .int .i64 x.a, .slice A5 lx.length c5, .int .i64 x.hi, .int .u64 x.lo]) rfl rfl rfl (by kernel_rfl) (fun _ _ _ h => h) (Below.drew (Below.refl _ _)) (fun wz hS => by
        have e0 := (hS.cell (World.block_lt_of_cell? _ _ X.1.1)).trans X.1.1
        have e1 := (hS.cell (World.block_lt_of_cell? _ _ X.1.2.1)).trans X.1.2.1
        have e2 := (hS.cell (World.block_lt_of_cell? _ _ X.1.2.2.1)).trans X.1.2.2.1
        have e3 := (hS.cell (World.block_lt_of_cell? _ _ X.1.2.2.2.1)).trans X.1.2.2.2.1
        have e4 := (hS.cell (World.block_lt_of_cell? _ _ X.1.2.2.2.2.1)).trans X.1.2.2.2.2.1
        have e5 := (hS.cell (World.block_lt_of_cell? _ _ X.1.2.2.2.2.2.1)).trans X.1.2.2.2.2.2.1
        have e6 := (hS.cell (World.block_lt_of_cell? _ _ X.1.2.2.2.2.2.2)).trans X.1.2.2.2.2.2.2
        have e7 := (hS.cell (World.block_lt_of_cell? _ _ X.2.1)).trans X.2.1
        have e8 := (hS.cell (World.block_lt_of_cell? _ _ X.2.2.1)).trans X.2.2.1
        have e9 := (hS.cell (World.block_lt_of_cell? _ _ X.2.2.2.1)).trans X.2.2.2.1
        have e10 := (hS.cell (World.block_lt_of_cell? _ _ X.2.2.2.2.1)).trans X.2.2.2.2.1
        have e11 := (hS.cell (World.block_lt_of_cell? _ _ X.2.2.2.2.2.1)).trans X.2.2.2.2.2.1
        have e12 := (hS.cell (World.block_lt_of_cell? _ _ X.2.2.2.2.2.2.1)).trans X.2.2.2.2.2.2.1
        have e13 := (hS.cell (World.block_lt_of_cell? _ _ X.2.2.2.2.2.2.2)).trans X.2.2.2.2.2.2.2
        go_simp) ?_
      simp only [Act.put, List.setIfInBounds_toArray, List.set_cons_succ, List.set_cons_zero]
      refine held_step 2 15 (.agg #[.int .i64 y.k, .int .i64 y.p, .int .i64 y.d, .int .i64 y.t.n, .string y.t.b, .string y.t.s, .string y.t.i, .int .i64 y.t.q, .int .i64 y.t.p, .string y.n, .int .i64 y.a, .slice A6 ly.length c6, .int .i64 y.hi, .int .u64 y.lo]) rfl rfl rfl (by kernel_rfl) (fun _ _ _ h => h) (Below.drew (Below.refl _ _)) (fun wz hS => by
        have e0 := (hS.cell (World.block_lt_of_cell? _ _ Y.1.1)).trans Y.1.1
        have e1 := (hS.cell (World.block_lt_of_cell? _ _ Y.1.2.1)).trans Y.1.2.1
        have e2 := (hS.cell (World.block_lt_of_cell? _ _ Y.1.2.2.1)).trans Y.1.2.2.1
        have e3 := (hS.cell (World.block_lt_of_cell? _ _ Y.1.2.2.2.1)).trans Y.1.2.2.2.1
        have e4 := (hS.cell (World.block_lt_of_cell? _ _ Y.1.2.2.2.2.1)).trans Y.1.2.2.2.2.1
        have e5 := (hS.cell (World.block_lt_of_cell? _ _ Y.1.2.2.2.2.2.1)).trans Y.1.2.2.2.2.2.1
        have e6 := (hS.cell (World.block_lt_of_cell? _ _ Y.1.2.2.2.2.2.2)).trans Y.1.2.2.2.2.2.2
        have e7 := (hS.cell (World.block_lt_of_cell? _ _ Y.2.1)).trans Y.2.1
        have e8 := (hS.cell (World.block_lt_of_cell? _ _ Y.2.2.1)).trans Y.2.2.1
        have e9 := (hS.cell (World.block_lt_of_cell? _ _ Y.2.2.2.1)).trans Y.2.2.2.1
        have e10 := (hS.cell (World.block_lt_of_cell? _ _ Y.2.2.2.2.1)).trans Y.2.2.2.2.1
        have e11 := (hS.cell (World.block_lt_of_cell? _ _ Y.2.2.2.2.2.1)).trans Y.2.2.2.2.2.1
        have e12 := (hS.cell (World.block_lt_of_cell? _ _ Y.2.2.2.2.2.2.1)).trans Y.2.2.2.2.2.2.1
        have e13 := (hS.cell (World.block_lt_of_cell? _ _ Y.2.2.2.2.2.2.2)).trans Y.2.2.2.2.2.2.2
        go_simp) ?_
      simp only [Act.put, List.setIfInBounds_toArray, List.set_cons_succ, List.set_cons_zero]
      have HS0 : Hid (Below W1.heap.size W1 W1.drew) := Below.drew (Below.refl _ _)
      refine wpAnyH_all (rs := [1, 4, 5]) (by kernel_rfl) (by simp) ?_
      intro i hi
      simp only [List.mem_cons, List.not_mem_nil, or_false] at hi
      rcases hi with rfl | rfl | rfl
      · refine wpOp_of_list rfl ?_
        go_wp2_with (go_at_call 8; refine (HF3.out _ HS0.out).mono ?_; rintro e w1 ⟨A7, c7, rfl, hr, _, ht, hb⟩; have HS1 := Lib.hid (Below.trans HS0.out (Below.mono hb HS0.out.size)); have HX2 := Lib.hid hr; have HX3 := Lib.hid ht; have hsz1 := hb.size; clear hb hr ht)
        refine ⟨HS1.out, ?_⟩
        refine wpAnyH_all (rs := [3, 4, 5]) (by kernel_rfl) (by simp) ?_
        intro i hi
        simp only [List.mem_cons, List.not_mem_nil, or_false] at hi
        rcases hi with rfl | rfl | rfl
        · refine wpOp_of_list rfl ?_
          go_wp2_with (go_at_call 8; refine (HF4.out _ HS1.out).mono ?_; rintro e w2 ⟨A8, c8, rfl, hr, _, ht, hb⟩; have HX4 := Lib.hid (RR.below HX2.out hb); have HX5 := Lib.hid (Ty.below HX3.out hb); have HS6 := Lib.hid (Below.trans HS1.out (Below.mono hb HS1.out.size)); have HX7 := Lib.hid hr; have HX8 := Lib.hid ht; have hsz2 := hb.size; clear hb hr ht)
          refine ⟨HS6.out, ?_⟩
          refine wpAnyH_all (rs := [4, 5]) (by kernel_rfl) (by simp) ?_
          intro i hi
          simp only [List.mem_cons, List.not_mem_nil, or_false] at hi
          rcases hi with rfl | rfl
          · refine wpOp_of_list rfl ?_
            go_wp2
            have HS9 : Hid (Below W1.heap.size W1 (w2.alloc (.cells #[.int .i64 0, .int .i64 0, .int .i64 0, .int .i64 0, .string { data := #[] }, .string { data := #[] }, .string { data := #[] }, .int .i64 0, .int .i64 0, .string { data := #[] }, .int .i64 0, .slice none 0 0, .int .i64 0, .int .u64 0] 27))) := Below.alloc HS6.out HS6.out.size (.cells #[.int .i64 0, .int .i64 0, .int .i64 0, .int .i64 0, .string { data := #[] }, .string { data := #[] }, .string { data := #[] }, .int .i64 0, .int .i64 0, .string { data := #[] }, .int .i64 0, .slice none 0 0, .int .i64 0, .int .u64 0] 27)
            have HX10 := Lib.hid (RR.below HX4.out (Below.alloc (Below.refl _ _) (Nat.le_refl _) (.cells #[.int .i64 0, .int .i64 0, .int .i64 0, .int .i64 0, .string { data := #[] }, .string { data := #[] }, .string { data := #[] }, .int .i64 0, .int .i64 0, .string { data := #[] }, .int .i64 0, .slice none 0 0, .int .i64 0, .int .u64 0] 27)))
            have HX11 := Lib.hid (RR.below HX7.out (Below.alloc (Below.refl _ _) (Nat.le_refl _) (.cells #[.int .i64 0, .int .i64 0, .int .i64 0, .int .i64 0, .string { data := #[] }, .string { data := #[] }, .string { data := #[] }, .int .i64 0, .int .i64 0, .string { data := #[] }, .int .i64 0, .slice none 0 0, .int .i64 0, .int .u64 0] 27)))
            have HX12 := Lib.hid (Ty.below HX5.out (Below.alloc (Below.refl _ _) (Nat.le_refl _) (.cells #[.int .i64 0, .int .i64 0, .int .i64 0, .int .i64 0, .string { data := #[] }, .string { data := #[] }, .string { data := #[] }, .int .i64 0, .int .i64 0, .string { data := #[] }, .int .i64 0, .slice none 0 0, .int .i64 0, .int .u64 0] 27)))
            have HX13 := Lib.hid (Ty.below HX8.out (Below.alloc (Below.refl _ _) (Nat.le_refl _) (.cells #[.int .i64 0, .int .i64 0, .int .i64 0, .int .i64 0, .string { data := #[] }, .string { data := #[] }, .string { data := #[] }, .int .i64 0, .int .i64 0, .string { data := #[] }, .int .i64 0, .slice none 0 0, .int .i64 0, .int .u64 0] 27)))
            have HX14 : Hid ((w2.alloc (.cells #[.int .i64 0, .int .i64 0, .int .i64 0, .int .i64 0, .string { data := #[] }, .string { data := #[] }, .string { data := #[] }, .int .i64 0, .int .i64 0, .string { data := #[] }, .int .i64 0, .slice none 0 0, .int .i64 0, .int .u64 0] 27)).heap[w2.heap.size]? = some (.cells #[.int .i64 0, .int .i64 0, .int .i64 0, .int .i64 0, .string { data := #[] }, .string { data := #[] }, .string { data := #[] }, .int .i64 0, .int .i64 0, .string { data := #[] }, .int .i64 0, .slice none 0 0, .int .i64 0, .int .u64 0] 27 (0, 0))) := heap_at (by first | rfl | simp)
            have HW15 : W1.heap.size ≤ w2.heap.size := by have h := HS6.out.size; first | exact h | (simp only [World.size_alloc] at h; first | exact h | omega) | omega
            refine ⟨HS9.out, ?_⟩
            refine wpAnyH_all (rs := [5]) (by kernel_rfl) (by simp) ?_
            intro i hi
            simp only [List.mem_cons, List.not_mem_nil, or_false] at hi
            subst hi
            refine wpOp_of_list rfl ?_
            go_wp2
            have HS16 : Hid (Below W1.heap.size W1 ((w2.alloc (.cells #[.int .i64 0, .int .i64 0, .int .i64 0, .int .i64 0, .string { data := #[] }, .string { data := #[] }, .string { data := #[] }, .int .i64 0, .int .i64 0, .string { data := #[] }, .int .i64 0, .slice none 0 0, .int .i64 0, .int .u64 0] 27)).alloc (.cells #[.int .i64 0, .int .i64 0, .int .i64 0, .int .i64 0, .string { data := #[] }, .string { data := #[] }, .string { data := #[] }, .int .i64 0, .int .i64 0, .string { data := #[] }, .int .i64 0, .slice none 0 0, .int .i64 0, .int .u64 0] 27))) := Below.alloc HS9.out HS9.out.size (.cells #[.int .i64 0, .int .i64 0, .int .i64 0, .int .i64 0, .string { data := #[] }, .string { data := #[] }, .string { data := #[] }, .int .i64 0, .int .i64 0, .string { data := #[] }, .int .i64 0, .slice none 0 0, .int .i64 0, .int .u64 0] 27)
            have HX17 := Lib.hid (block_old HX14.out (.cells #[.int .i64 0, .int .i64 0, .int .i64 0, .int .i64 0, .string { data := #[] }, .string { data := #[] }, .string { data := #[] }, .int .i64 0, .int .i64 0, .string { data := #[] }, .int .i64 0, .slice none 0 0, .int .i64 0, .int .u64 0] 27))
            have HX18 := Lib.hid (RR.below HX10.out (Below.alloc (Below.refl _ _) (Nat.le_refl _) (.cells #[.int .i64 0, .int .i64 0, .int .i64 0, .int .i64 0, .string { data := #[] }, .string { data := #[] }, .string { data := #[] }, .int .i64 0, .int .i64 0, .string { data := #[] }, .int .i64 0, .slice none 0 0, .int .i64 0, .int .u64 0] 27)))
            have HX19 := Lib.hid (RR.below HX11.out (Below.alloc (Below.refl _ _) (Nat.le_refl _) (.cells #[.int .i64 0, .int .i64 0, .int .i64 0, .int .i64 0, .string { data := #[] }, .string { data := #[] }, .string { data := #[] }, .int .i64 0, .int .i64 0, .string { data := #[] }, .int .i64 0, .slice none 0 0, .int .i64 0, .int .u64 0] 27)))
            have HX20 := Lib.hid (Ty.below HX12.out (Below.alloc (Below.refl _ _) (Nat.le_refl _) (.cells #[.int .i64 0, .int .i64 0, .int .i64 0, .int .i64 0, .string { data := #[] }, .string { data := #[] }, .string { data := #[] }, .int .i64 0, .int .i64 0, .string { data := #[] }, .int .i64 0, .slice none 0 0, .int .i64 0, .int .u64 0] 27)))
            have HX21 := Lib.hid (Ty.below HX13.out (Below.alloc (Below.refl _ _) (Nat.le_refl _) (.cells #[.int .i64 0, .int .i64 0, .int .i64 0, .int .i64 0, .string { data := #[] }, .string { data := #[] }, .string { data := #[] }, .int .i64 0, .int .i64 0, .string { data := #[] }, .int .i64 0, .slice none 0 0, .int .i64 0, .int .u64 0] 27)))
            have HX22 : Hid (((w2.alloc (.cells #[.int .i64 0, .int .i64 0, .int .i64 0, .int .i64 0, .string { data := #[] }, .string { data := #[] }, .string { data := #[] }, .int .i64 0, .int .i64 0, .string { data := #[] }, .int .i64 0, .slice none 0 0, .int .i64 0, .int .u64 0] 27)).alloc (.cells #[.int .i64 0, .int .i64 0, .int .i64 0, .int .i64 0, .string { data := #[] }, .string { data := #[] }, .string { data := #[] }, .int .i64 0, .int .i64 0, .string { data := #[] }, .int .i64 0, .slice none 0 0, .int .i64 0, .int .u64 0] 27)).heap[w2.heap.size + 1]? = some (.cells #[.int .i64 0, .int .i64 0, .int .i64 0, .int .i64 0, .string { data := #[] }, .string { data := #[] }, .string { data := #[] }, .int .i64 0, .int .i64 0, .string { data := #[] }, .int .i64 0, .slice none 0 0, .int .i64 0, .int .u64 0] 27 (0, 0))) := heap_at (by first | rfl | simp)
            have HW23 : W1.heap.size ≤ w2.heap.size + 1 := by have h := HS9.out.size; first | exact h | (simp only [World.size_alloc] at h; first | exact h | omega) | omega
            have HN24 : w2.heap.size ≠ w2.heap.size + 1 := by have h := (Array.getElem?_eq_some_iff.1 HX14.out).1; first | omega | (simp only [World.size_alloc] at h; omega)
            refine ⟨HS16.out, ?_⟩
            refine ⟨by kernel_rfl, ?_⟩
            exact ⟨w2.heap.size, w2.heap.size + 1, A7, c7, A8, c8, rfl, zer_mk HX17.out HX22.out HS16.out HX18.out HX19.out HX20.out HX21.out HN24 HW15 HW23⟩
          · refine wpOp_of_list rfl ?_
            go_wp2
            have HS25 : Hid (Below W1.heap.size W1 (w2.alloc (.cells #[.int .i64 0, .int .i64 0, .int .i64 0, .int .i64 0, .string { data := #[] }, .string { data := #[] }, .string { data := #[] }, .int .i64 0, .int .i64 0, .string { data := #[] }, .int .i64 0, .slice none 0 0, .int .i64 0, .int .u64 0] 27))) := Below.alloc HS6.out HS6.out.size (.cells #[.int .i64 0, .int .i64 0, .int .i64 0, .int .i64 0, .string { data := #[] }, .string { data := #[] }, .string { data := #[] }, .int .i64 0, .int .i64 0, .string { data := #[] }, .int .i64 0, .slice none 0 0, .int .i64 0, .int .u64 0] 27)
            have HX26 := Lib.hid (RR.below HX4.out (Below.alloc (Below.refl _ _) (Nat.le_refl _) (.cells #[.int .i64 0, .int .i64 0, .int .i64 0, .int .i64 0, .string { data := #[] }, .string { data := #[] }, .string { data := #[] }, .int .i64 0, .int .i64 0, .string { data := #[] }, .int .i64 0, .slice none 0 0, .int .i64 0, .int .u64 0] 27)))
            have HX27 := Lib.hid (RR.below HX7.out (Below.alloc (Below.refl _ _) (Nat.le_refl _) (.cells #[.int .i64 0, .int .i64 0, .int .i64 0, .int .i64 0, .string { data := #[] }, .string { data := #[] }, .string { data := #[] }, .int .i64 0, .int .i64 0, .string { data := #[] }, .int .i64 0, .slice none 0 0, .int .i64 0, .int .u64 0] 27)))
            have HX28 := Lib.hid (Ty.below HX5.out (Below.alloc (Below.refl _ _) (Nat.le_refl _) (.cells #[.int .i64 0, .int .i64 0, .int .i64 0, .int .i64 0, .string { data := #[] }, .string { data := #[] }, .string { data := #[] }, .int .i64 0, .int .i64 0, .string { data := #[] }, .int .i64 0, .slice none 0 0, .int .i64 0, .int .u64 0] 27)))
            have HX29 := Lib.hid (Ty.below HX8.out (Below.alloc (Below.refl _ _) (Nat.le_refl _) (.cells #[.int .i64 0, .int .i64 0, .int .i64 0, .int .i64 0, .string { data := #[] }, .string { data := #[] }, .string { data := #[] }, .int .i64 0, .int .i64 0, .string { data := #[] }, .int .i64 0, .slice none 0 0, .int .i64 0, .int .u64 0] 27)))
            have HX30 : Hid ((w2.alloc (.cells #[.int .i64 0, .int .i64 0, .int .i64 0, .int .i64 0, .string { data := #[] }, .string { data := #[] }, .string { data := #[] }, .int .i64 0, .int .i64 0, .string { data := #[] }, .int .i64 0, .slice none 0 0, .int .i64 0, .int .u64 0] 27)).heap[w2.heap.size]? = some (.cells #[.int .i64 0, .int .i64 0, .int .i64 0, .int .i64 0, .string { data := #[] }, .string { data := #[] }, .string { data := #[] }, .int .i64 0, .int .i64 0, .string { data := #[] }, .int .i64 0, .slice none 0 0, .int .i64 0, .int .u64 0] 27 (0, 0))) := heap_at (by first | rfl | simp)
            have HW31 : W1.heap.size ≤ w2.heap.size := by have h := HS6.out.size; first | exact h | (simp only [World.size_alloc] at h; first | exact h | omega) | omega
            refine ⟨HS25.out, ?_⟩
            refine wpAnyH_all (rs := [4]) (by kernel_rfl) (by simp) ?_
            intro i hi
            simp only [List.mem_cons, List.not_mem_nil, or_false] at hi
            subst hi
            refine wpOp_of_list rfl ?_
            go_wp2
            have HS32 : Hid (Below W1.heap.size W1 ((w2.alloc (.cells #[.int .i64 0, .int .i64 0, .int .i64 0, .int .i64 0, .string { data := #[] }, .string { data := #[] }, .string { data := #[] }, .int .i64 0, .int .i64 0, .string { data := #[] }, .int .i64 0, .slice none 0 0, .int .i64 0, .int .u64 0] 27)).alloc (.cells #[.int .i64 0, .int .i64 0, .int .i64 0, .int .i64 0, .string { data := #[] }, .string { data := #[] }, .string { data := #[] }, .int .i64 0, .int .i64 0, .string { data := #[] }, .int .i64 0, .slice none 0 0, .int .i64 0, .int .u64 0] 27))) := Below.alloc HS25.out HS25.out.size (.cells #[.int .i64 0, .int .i64 0, .int .i64 0, .int .i64 0, .string { data := #[] }, .string { data := #[] }, .string { data := #[] }, .int .i64 0, .int .i64 0, .string { data := #[] }, .int .i64 0, .slice none 0 0, .int .i64 0, .int .u64 0] 27)
            have HX33 := Lib.hid (block_old HX30.out (.cells #[.int .i64 0, .int .i64 0, .int .i64 0, .int .i64 0, .string { data := #[] }, .string { data := #[] }, .string { data := #[] }, .int .i64 0, .int .i64 0, .string { data := #[] }, .int .i64 0, .slice none 0 0, .int .i64 0, .int .u64 0] 27))
            have HX34 := Lib.hid (RR.below HX26.out (Below.alloc (Below.refl _ _) (Nat.le_refl _) (.cells #[.int .i64 0, .int .i64 0, .int .i64 0, .int .i64 0, .string { data := #[] }, .string { data := #[] }, .string { data := #[] }, .int .i64 0, .int .i64 0, .string { data := #[] }, .int .i64 0, .slice none 0 0, .int .i64 0, .int .u64 0] 27)))
            have HX35 := Lib.hid (RR.below HX27.out (Below.alloc (Below.refl _ _) (Nat.le_refl _) (.cells #[.int .i64 0, .int .i64 0, .int .i64 0, .int .i64 0, .string { data := #[] }, .string { data := #[] }, .string { data := #[] }, .int .i64 0, .int .i64 0, .string { data := #[] }, .int .i64 0, .slice none 0 0, .int .i64 0, .int .u64 0] 27)))
            have HX36 := Lib.hid (Ty.below HX28.out (Below.alloc (Below.refl _ _) (Nat.le_refl _) (.cells #[.int .i64 0, .int .i64 0, .int .i64 0, .int .i64 0, .string { data := #[] }, .string { data := #[] }, .string { data := #[] }, .int .i64 0, .int .i64 0, .string { data := #[] }, .int .i64 0, .slice none 0 0, .int .i64 0, .int .u64 0] 27)))
            have HX37 := Lib.hid (Ty.below HX29.out (Below.alloc (Below.refl _ _) (Nat.le_refl _) (.cells #[.int .i64 0, .int .i64 0, .int .i64 0, .int .i64 0, .string { data := #[] }, .string { data := #[] }, .string { data := #[] }, .int .i64 0, .int .i64 0, .string { data := #[] }, .int .i64 0, .slice none 0 0, .int .i64 0, .int .u64 0] 27)))
            have HX38 : Hid (((w2.alloc (.cells #[.int .i64 0, .int .i64 0, .int .i64 0, .int .i64 0, .string { data := #[] }, .string { data := #[] }, .string { data := #[] }, .int .i64 0, .int .i64 0, .string { data := #[] }, .int .i64 0, .slice none 0 0, .int .i64 0, .int .u64 0] 27)).alloc (.cells #[.int .i64 0, .int .i64 0, .int .i64 0, .int .i64 0, .string { data := #[] }, .string { data := #[] }, .string { data := #[] }, .int .i64 0, .int .i64 0, .string { data := #[] }, .int .i64 0, .slice none 0 0, .int .i64 0, .int .u64 0] 27)).heap[w2.heap.size + 1]? = some (.cells #[.int .i64 0, .int .i64 0, .int .i64 0, .int .i64 0, .string { data := #[] }, .string { data := #[] }, .string { data := #[] }, .int .i64 0, .int .i64 0, .string { data := #[] }, .int .i64 0, .slice none 0 0, .int .i64 0, .int .u64 0] 27 (0, 0))) := heap_at (by first | rfl | simp)
            have HW39 : W1.heap.size ≤ w2.heap.size + 1 := by have h := HS25.out.size; first | exact h | (simp only [World.size_alloc] at h; first | exact h | omega) | omega
            have HN40 : w2.heap.size + 1 ≠ w2.heap.size := by have h := (Array.getElem?_eq_some_iff.1 HX30.out).1; first | omega | (simp only [World.size_alloc] at h; omega)
            refine ⟨HS32.out, ?_⟩
            refine ⟨by kernel_rfl, ?_⟩
            exact ⟨w2.heap.size + 1, w2.heap.size, A7, c7, A8, c8, rfl, zer_mk HX38.out HX33.out HS32.out HX34.out HX35.out HX36.out HX37.out HN40 HW39 HW31⟩
        · refine wpOp_of_list rfl ?_
          go_wp2
          have HS41 : Hid (Below W1.heap.size W1 (w1.alloc (.cells #[.int .i64 0, .int .i64 0, .int .i64 0, .int .i64 0, .string { data := #[] }, .string { data := #[] }, .string { data := #[] }, .int .i64 0, .int .i64 0, .string { data := #[] }, .int .i64 0, .slice none 0 0, .int .i64 0, .int .u64 0] 27))) := Below.alloc HS1.out HS1.out.size (.cells #[.int .i64 0, .int .i64 0, .int .i64 0, .int .i64 0, .string { data := #[] }, .string { data := #[] }, .string { data := #[] }, .int .i64 0, .int .i64 0, .string { data := #[] }, .int .i64 0, .slice none 0 0, .int .i64 0, .int .u64 0] 27)
          have HX42 := Lib.hid (RR.below HX2.out (Below.alloc (Below.refl _ _) (Nat.le_refl _) (.cells #[.int .i64 0, .int .i64 0, .int .i64 0, .int .i64 0, .string { data := #[] }, .string { data := #[] }, .string { data := #[] }, .int .i64 0, .int .i64 0, .string { data := #[] }, .int .i64 0, .slice none 0 0, .int .i64 0, .int .u64 0] 27)))
          have HX43 := Lib.hid (Ty.below HX3.out (Below.alloc (Below.refl _ _) (Nat.le_refl _) (.cells #[.int .i64 0, .int .i64 0, .int .i64 0, .int .i64 0, .string { data := #[] }, .string { data := #[] }, .string { data := #[] }, .int .i64 0, .int .i64 0, .string { data := #[] }, .int .i64 0, .slice none 0 0, .int .i64 0, .int .u64 0] 27)))
          have HX44 : Hid ((w1.alloc (.cells #[.int .i64 0, .int .i64 0, .int .i64 0, .int .i64 0, .string { data := #[] }, .string { data := #[] }, .string { data := #[] }, .int .i64 0, .int .i64 0, .string { data := #[] }, .int .i64 0, .slice none 0 0, .int .i64 0, .int .u64 0] 27)).heap[w1.heap.size]? = some (.cells #[.int .i64 0, .int .i64 0, .int .i64 0, .int .i64 0, .string { data := #[] }, .string { data := #[] }, .string { data := #[] }, .int .i64 0, .int .i64 0, .string { data := #[] }, .int .i64 0, .slice none 0 0, .int .i64 0, .int .u64 0] 27 (0, 0))) := heap_at (by first | rfl | simp)
          have HW45 : W1.heap.size ≤ w1.heap.size := by have h := HS1.out.size; first | exact h | (simp only [World.size_alloc] at h; first | exact h | omega) | omega
          refine ⟨HS41.out, ?_⟩
          refine wpAnyH_all (rs := [3, 5]) (by kernel_rfl) (by simp) ?_
          intro i hi
          simp only [List.mem_cons, List.not_mem_nil, or_false] at hi
          rcases hi with rfl | rfl
          · refine wpOp_of_list rfl ?_
            go_wp2_with (go_at_call 8; refine (HF4.out _ HS41.out).mono ?_; rintro e w2 ⟨A8, c8, rfl, hr, _, ht, hb⟩; have HX46 := Lib.hid (block_kept HX44.out hb); have HX47 := Lib.hid (RR.below HX42.out hb); have HX48 := Lib.hid (Ty.below HX43.out hb); have HS49 := Lib.hid (Below.trans HS41.out (Below.mono hb HS41.out.size)); have HX50 := Lib.hid hr; have HX51 := Lib.hid ht; have hsz2 := hb.size; clear hb hr ht)
            refine ⟨HS49.out, ?_⟩
            refine wpAnyH_all (rs := [5]) (by kernel_rfl) (by simp) ?_
            intro i hi
            simp only [List.mem_cons, List.not_mem_nil, or_false] at hi
            subst hi
            refine wpOp_of_list rfl ?_
            go_wp2
            have HS52 : Hid (Below W1.heap.size W1 (w2.alloc (.cells #[.int .i64 0, .int .i64 0, .int .i64 0, .int .i64 0, .string { data := #[] }, .string { data := #[] }, .string { data := #[] }, .int .i64 0, .int .i64 0, .string { data := #[] }, .int .i64 0, .slice none 0 0, .int .i64 0, .int .u64 0] 27))) := Below.alloc HS49.out HS49.out.size (.cells #[.int .i64 0, .int .i64 0, .int .i64 0, .int .i64 0, .string { data := #[] }, .string { data := #[] }, .string { data := #[] }, .int .i64 0, .int .i64 0, .string { data := #[] }, .int .i64 0, .slice none 0 0, .int .i64 0, .int .u64 0] 27)
            have HX53 := Lib.hid (block_old HX46.out (.cells #[.int .i64 0, .int .i64 0, .int .i64 0, .int .i64 0, .string { data := #[] }, .string { data := #[] }, .string { data := #[] }, .int .i64 0, .int .i64 0, .string { data := #[] }, .int .i64 0, .slice none 0 0, .int .i64 0, .int .u64 0] 27))
            have HX54 := Lib.hid (RR.below HX47.out (Below.alloc (Below.refl _ _) (Nat.le_refl _) (.cells #[.int .i64 0, .int .i64 0, .int .i64 0, .int .i64 0, .string { data := #[] }, .string { data := #[] }, .string { data := #[] }, .int .i64 0, .int .i64 0, .string { data := #[] }, .int .i64 0, .slice none 0 0, .int .i64 0, .int .u64 0] 27)))
            have HX55 := Lib.hid (RR.below HX50.out (Below.alloc (Below.refl _ _) (Nat.le_refl _) (.cells #[.int .i64 0, .int .i64 0, .int .i64 0, .int .i64 0, .string { data := #[] }, .string { data := #[] }, .string { data := #[] }, .int .i64 0, .int .i64 0, .string { data := #[] }, .int .i64 0, .slice none 0 0, .int .i64 0, .int .u64 0] 27)))
            have HX56 := Lib.hid (Ty.below HX48.out (Below.alloc (Below.refl _ _) (Nat.le_refl _) (.cells #[.int .i64 0, .int .i64 0, .int .i64 0, .int .i64 0, .string { data := #[] }, .string { data := #[] }, .string { data := #[] }, .int .i64 0, .int .i64 0, .string { data := #[] }, .int .i64 0, .slice none 0 0, .int .i64 0, .int .u64 0] 27)))
            have HX57 := Lib.hid (Ty.below HX51.out (Below.alloc (Below.refl _ _) (Nat.le_refl _) (.cells #[.int .i64 0, .int .i64 0, .int .i64 0, .int .i64 0, .string { data := #[] }, .string { data := #[] }, .string { data := #[] }, .int .i64 0, .int .i64 0, .string { data := #[] }, .int .i64 0, .slice none 0 0, .int .i64 0, .int .u64 0] 27)))
            have HX58 : Hid ((w2.alloc (.cells #[.int .i64 0, .int .i64 0, .int .i64 0, .int .i64 0, .string { data := #[] }, .string { data := #[] }, .string { data := #[] }, .int .i64 0, .int .i64 0, .string { data := #[] }, .int .i64 0, .slice none 0 0, .int .i64 0, .int .u64 0] 27)).heap[w2.heap.size]? = some (.cells #[.int .i64 0, .int .i64 0, .int .i64 0, .int .i64 0, .string { data := #[] }, .string { data := #[] }, .string { data := #[] }, .int .i64 0, .int .i64 0, .string { data := #[] }, .int .i64 0, .slice none 0 0, .int .i64 0, .int .u64 0] 27 (0, 0))) := heap_at (by first | rfl | simp)
            have HW59 : W1.heap.size ≤ w2.heap.size := by have h := HS49.out.size; first | exact h | (simp only [World.size_alloc] at h; first | exact h | omega) | omega
            have HN60 : w1.heap.size ≠ w2.heap.size := by have h := (Array.getElem?_eq_some_iff.1 HX46.out).1; first | omega | (simp only [World.size_alloc] at h; omega)
            refine ⟨HS52.out, ?_⟩
            refine ⟨by kernel_rfl, ?_⟩
            exact ⟨w1.heap.size, w2.heap.size, A7, c7, A8, c8, rfl, zer_mk HX53.out HX58.out HS52.out HX54.out HX55.out HX56.out HX57.out HN60 HW45 HW59⟩
          · refine wpOp_of_list rfl ?_
            go_wp2
            have HS61 : Hid (Below W1.heap.size W1 ((w1.alloc (.cells #[.int .i64 0, .int .i64 0, .int .i64 0, .int .i64 0, .string { data := #[] }, .string { data := #[] }, .string { data := #[] }, .int .i64 0, .int .i64 0, .string { data := #[] }, .int .i64 0, .slice none 0 0, .int .i64 0, .int .u64 0] 27)).alloc (.cells #[.int .i64 0, .int .i64 0, .int .i64 0, .int .i64 0, .string { data := #[] }, .string { data := #[] }, .string { data := #[] }, .int .i64 0, .int .i64 0, .string { data := #[] }, .int .i64 0, .slice none 0 0, .int .i64 0, .int .u64 0] 27))) := Below.alloc HS41.out HS41.out.size (.cells #[.int .i64 0, .int .i64 0, .int .i64 0, .int .i64 0, .string { data := #[] }, .string { data := #[] }, .string { data := #[] }, .int .i64 0, .int .i64 0, .string { data := #[] }, .int .i64 0, .slice none 0 0, .int .i64 0, .int .u64 0] 27)
            have HX62 := Lib.hid (block_old HX44.out (.cells #[.int .i64 0, .int .i64 0, .int .i64 0, .int .i64 0, .string { data := #[] }, .string { data := #[] }, .string { data := #[] }, .int .i64 0, .int .i64 0, .string { data := #[] }, .int .i64 0, .slice none 0 0, .int .i64 0, .int .u64 0] 27))
            have HX63 := Lib.hid (RR.below HX42.out (Below.alloc (Below.refl _ _) (Nat.le_refl _) (.cells #[.int .i64 0, .int .i64 0, .int .i64 0, .int .i64 0, .string { data := #[] }, .string { data := #[] }, .string { data := #[] }, .int .i64 0, .int .i64 0, .string { data := #[] }, .int .i64 0, .slice none 0 0, .int .i64 0, .int .u64 0] 27)))
            have HX64 := Lib.hid (Ty.below HX43.out (Below.alloc (Below.refl _ _) (Nat.le_refl _) (.cells #[.int .i64 0, .int .i64 0, .int .i64 0, .int .i64 0, .string { data := #[] }, .string { data := #[] }, .string { data := #[] }, .int .i64 0, .int .i64 0, .string { data := #[] }, .int .i64 0, .slice none 0 0, .int .i64 0, .int .u64 0] 27)))
            have HX65 : Hid (((w1.alloc (.cells #[.int .i64 0, .int .i64 0, .int .i64 0, .int .i64 0, .string { data := #[] }, .string { data := #[] }, .string { data := #[] }, .int .i64 0, .int .i64 0, .string { data := #[] }, .int .i64 0, .slice none 0 0, .int .i64 0, .int .u64 0] 27)).alloc (.cells #[.int .i64 0, .int .i64 0, .int .i64 0, .int .i64 0, .string { data := #[] }, .string { data := #[] }, .string { data := #[] }, .int .i64 0, .int .i64 0, .string { data := #[] }, .int .i64 0, .slice none 0 0, .int .i64 0, .int .u64 0] 27)).heap[w1.heap.size + 1]? = some (.cells #[.int .i64 0, .int .i64 0, .int .i64 0, .int .i64 0, .string { data := #[] }, .string { data := #[] }, .string { data := #[] }, .int .i64 0, .int .i64 0, .string { data := #[] }, .int .i64 0, .slice none 0 0, .int .i64 0, .int .u64 0] 27 (0, 0))) := heap_at (by first | rfl | simp)
            have HW66 : W1.heap.size ≤ w1.heap.size + 1 := by have h := HS41.out.size; first | exact h | (simp only [World.size_alloc] at h; first | exact h | omega) | omega
            have HN67 : w1.heap.size ≠ w1.heap.size + 1 := by have h := (Array.getElem?_eq_some_iff.1 HX44.out).1; first | omega | (simp only [World.size_alloc] at h; omega)
            refine ⟨HS61.out, ?_⟩
            refine wpAnyH_all (rs := [3]) (by kernel_rfl) (by simp) ?_
            intro i hi
            simp only [List.mem_cons, List.not_mem_nil, or_false] at hi
            subst hi
            refine wpOp_of_list rfl ?_
            go_wp2_with (go_at_call 8; refine (HF4.out _ HS61.out).mono ?_; rintro e w2 ⟨A8, c8, rfl, hr, _, ht, hb⟩; have HX68 := Lib.hid (block_kept HX62.out hb); have HX69 := Lib.hid (block_kept HX65.out hb); have HX70 := Lib.hid (RR.below HX63.out hb); have HX71 := Lib.hid (Ty.below HX64.out hb); have HS72 := Lib.hid (Below.trans HS61.out (Below.mono hb HS61.out.size)); have HX73 := Lib.hid hr; have HX74 := Lib.hid ht; have hsz2 := hb.size; clear hb hr ht)
            refine ⟨HS72.out, ?_⟩
            refine ⟨by kernel_rfl, ?_⟩
            exact ⟨w1.heap.size, w1.heap.size + 1, A7, c7, A8, c8, rfl, zer_mk HX68.out HX69.out HS72.out HX70.out HX73.out HX71.out HX74.out HN67 HW45 HW66⟩
        · refine wpOp_of_list rfl ?_
          go_wp2
          have HS75 : Hid (Below W1.heap.size W1 (w1.alloc (.cells #[.int .i64 0, .int .i64 0, .int .i64 0, .int .i64 0, .string { data := #[] }, .string { data := #[] }, .string { data := #[] }, .int .i64 0, .int .i64 0, .string { data := #[] }, .int .i64 0, .slice none 0 0, .int .i64 0, .int .u64 0] 27))) := Below.alloc HS1.out HS1.out.size (.cells #[.int .i64 0, .int .i64 0, .int .i64 0, .int .i64 0, .string { data := #[] }, .string { data := #[] }, .string { data := #[] }, .int .i64 0, .int .i64 0, .string { data := #[] }, .int .i64 0, .slice none 0 0, .int .i64 0, .int .u64 0] 27)
          have HX76 := Lib.hid (RR.below HX2.out (Below.alloc (Below.refl _ _) (Nat.le_refl _) (.cells #[.int .i64 0, .int .i64 0, .int .i64 0, .int .i64 0, .string { data := #[] }, .string { data := #[] }, .string { data := #[] }, .int .i64 0, .int .i64 0, .string { data := #[] }, .int .i64 0, .slice none 0 0, .int .i64 0, .int .u64 0] 27)))
          have HX77 := Lib.hid (Ty.below HX3.out (Below.alloc (Below.refl _ _) (Nat.le_refl _) (.cells #[.int .i64 0, .int .i64 0, .int .i64 0, .int .i64 0, .string { data := #[] }, .string { data := #[] }, .string { data := #[] }, .int .i64 0, .int .i64 0, .string { data := #[] }, .int .i64 0, .slice none 0 0, .int .i64 0, .int .u64 0] 27)))
          have HX78 : Hid ((w1.alloc (.cells #[.int .i64 0, .int .i64 0, .int .i64 0, .int .i64 0, .string { data := #[] }, .string { data := #[] }, .string { data := #[] }, .int .i64 0, .int .i64 0, .string { data := #[] }, .int .i64 0, .slice none 0 0, .int .i64 0, .int .u64 0] 27)).heap[w1.heap.size]? = some (.cells #[.int .i64 0, .int .i64 0, .int .i64 0, .int .i64 0, .string { data := #[] }, .string { data := #[] }, .string { data := #[] }, .int .i64 0, .int .i64 0, .string { data := #[] }, .int .i64 0, .slice none 0 0, .int .i64 0, .int .u64 0] 27 (0, 0))) := heap_at (by first | rfl | simp)
          have HW79 : W1.heap.size ≤ w1.heap.size := by have h := HS1.out.size; first | exact h | (simp only [World.size_alloc] at h; first | exact h | omega) | omega
          refine ⟨HS75.out, ?_⟩
          refine wpAnyH_all (rs := [3, 4]) (by kernel_rfl) (by simp) ?_
          intro i hi
          simp only [List.mem_cons, List.not_mem_nil, or_false] at hi
          rcases hi with rfl | rfl
          · refine wpOp_of_list rfl ?_
            go_wp2_with (go_at_call 8; refine (HF4.out _ HS75.out).mono ?_; rintro e w2 ⟨A8, c8, rfl, hr, _, ht, hb⟩; have HX80 := Lib.hid (block_kept HX78.out hb); have HX81 := Lib.hid (RR.below HX76.out hb); have HX82 := Lib.hid (Ty.below HX77.out hb); have HS83 := Lib.hid (Below.trans HS75.out (Below.mono hb HS75.out.size)); have HX84 := Lib.hid hr; have HX85 := Lib.hid ht; have hsz2 := hb.size; clear hb hr ht)
            refine ⟨HS83.out, ?_⟩
            refine wpAnyH_all (rs := [4]) (by kernel_rfl) (by simp) ?_
            intro i hi
            simp only [List.mem_cons, List.not_mem_nil, or_false] at hi
            subst hi
            refine wpOp_of_list rfl ?_
            go_wp2
            have HS86 : Hid (Below W1.heap.size W1 (w2.alloc (.cells #[.int .i64 0, .int .i64 0, .int .i64 0, .int .i64 0, .string { data := #[] }, .string { data := #[] }, .string { data := #[] }, .int .i64 0, .int .i64 0, .string { data := #[] }, .int .i64 0, .slice none 0 0, .int .i64 0, .int .u64 0] 27))) := Below.alloc HS83.out HS83.out.size (.cells #[.int .i64 0, .int .i64 0, .int .i64 0, .int .i64 0, .string { data := #[] }, .string { data := #[] }, .string { data := #[] }, .int .i64 0, .int .i64 0, .string { data := #[] }, .int .i64 0, .slice none 0 0, .int .i64 0, .int .u64 0] 27)
            have HX87 := Lib.hid (block_old HX80.out (.cells #[.int .i64 0, .int .i64 0, .int .i64 0, .int .i64 0, .string { data := #[] }, .string { data := #[] }, .string { data := #[] }, .int .i64 0, .int .i64 0, .string { data := #[] }, .int .i64 0, .slice none 0 0, .int .i64 0, .int .u64 0] 27))
            have HX88 := Lib.hid (RR.below HX81.out (Below.alloc (Below.refl _ _) (Nat.le_refl _) (.cells #[.int .i64 0, .int .i64 0, .int .i64 0, .int .i64 0, .string { data := #[] }, .string { data := #[] }, .string { data := #[] }, .int .i64 0, .int .i64 0, .string { data := #[] }, .int .i64 0, .slice none 0 0, .int .i64 0, .int .u64 0] 27)))
            have HX89 := Lib.hid (RR.below HX84.out (Below.alloc (Below.refl _ _) (Nat.le_refl _) (.cells #[.int .i64 0, .int .i64 0, .int .i64 0, .int .i64 0, .string { data := #[] }, .string { data := #[] }, .string { data := #[] }, .int .i64 0, .int .i64 0, .string { data := #[] }, .int .i64 0, .slice none 0 0, .int .i64 0, .int .u64 0] 27)))
            have HX90 := Lib.hid (Ty.below HX82.out (Below.alloc (Below.refl _ _) (Nat.le_refl _) (.cells #[.int .i64 0, .int .i64 0, .int .i64 0, .int .i64 0, .string { data := #[] }, .string { data := #[] }, .string { data := #[] }, .int .i64 0, .int .i64 0, .string { data := #[] }, .int .i64 0, .slice none 0 0, .int .i64 0, .int .u64 0] 27)))
            have HX91 := Lib.hid (Ty.below HX85.out (Below.alloc (Below.refl _ _) (Nat.le_refl _) (.cells #[.int .i64 0, .int .i64 0, .int .i64 0, .int .i64 0, .string { data := #[] }, .string { data := #[] }, .string { data := #[] }, .int .i64 0, .int .i64 0, .string { data := #[] }, .int .i64 0, .slice none 0 0, .int .i64 0, .int .u64 0] 27)))
            have HX92 : Hid ((w2.alloc (.cells #[.int .i64 0, .int .i64 0, .int .i64 0, .int .i64 0, .string { data := #[] }, .string { data := #[] }, .string { data := #[] }, .int .i64 0, .int .i64 0, .string { data := #[] }, .int .i64 0, .slice none 0 0, .int .i64 0, .int .u64 0] 27)).heap[w2.heap.size]? = some (.cells #[.int .i64 0, .int .i64 0, .int .i64 0, .int .i64 0, .string { data := #[] }, .string { data := #[] }, .string { data := #[] }, .int .i64 0, .int .i64 0, .string { data := #[] }, .int .i64 0, .slice none 0 0, .int .i64 0, .int .u64 0] 27 (0, 0))) := heap_at (by first | rfl | simp)
            have HW93 : W1.heap.size ≤ w2.heap.size := by have h := HS83.out.size; first | exact h | (simp only [World.size_alloc] at h; first | exact h | omega) | omega
            have HN94 : w2.heap.size ≠ w1.heap.size := by have h := (Array.getElem?_eq_some_iff.1 HX80.out).1; first | omega | (simp only [World.size_alloc] at h; omega)
            refine ⟨HS86.out, ?_⟩
            refine ⟨by kernel_rfl, ?_⟩
            exact ⟨w2.heap.size, w1.heap.size, A7, c7, A8, c8, rfl, zer_mk HX92.out HX87.out HS86.out HX88.out HX89.out HX90.out HX91.out HN94 HW93 HW79⟩
          · refine wpOp_of_list rfl ?_
            go_wp2
            have HS95 : Hid (Below W1.heap.size W1 ((w1.alloc (.cells #[.int .i64 0, .int .i64 0, .int .i64 0, .int .i64 0, .string { data := #[] }, .string { data := #[] }, .string { data := #[] }, .int .i64 0, .int .i64 0, .string { data := #[] }, .int .i64 0, .slice none 0 0, .int .i64 0, .int .u64 0] 27)).alloc (.cells #[.int .i64 0, .int .i64 0, .int .i64 0, .int .i64 0, .string { data := #[] }, .string { data := #[] }, .string { data := #[] }, .int .i64 0, .int .i64 0, .string { data := #[] }, .int .i64 0, .slice none 0 0, .int .i64 0, .int .u64 0] 27))) := Below.alloc HS75.out HS75.out.size (.cells #[.int .i64 0, .int .i64 0, .int .i64 0, .int .i64 0, .string { data := #[] }, .string { data := #[] }, .string { data := #[] }, .int .i64 0, .int .i64 0, .string { data := #[] }, .int .i64 0, .slice none 0 0, .int .i64 0, .int .u64 0] 27)
            have HX96 := Lib.hid (block_old HX78.out (.cells #[.int .i64 0, .int .i64 0, .int .i64 0, .int .i64 0, .string { data := #[] }, .string { data := #[] }, .string { data := #[] }, .int .i64 0, .int .i64 0, .string { data := #[] }, .int .i64 0, .slice none 0 0, .int .i64 0, .int .u64 0] 27))
            have HX97 := Lib.hid (RR.below HX76.out (Below.alloc (Below.refl _ _) (Nat.le_refl _) (.cells #[.int .i64 0, .int .i64 0, .int .i64 0, .int .i64 0, .string { data := #[] }, .string { data := #[] }, .string { data := #[] }, .int .i64 0, .int .i64 0, .string { data := #[] }, .int .i64 0, .slice none 0 0, .int .i64 0, .int .u64 0] 27)))
            have HX98 := Lib.hid (Ty.below HX77.out (Below.alloc (Below.refl _ _) (Nat.le_refl _) (.cells #[.int .i64 0, .int .i64 0, .int .i64 0, .int .i64 0, .string { data := #[] }, .string { data := #[] }, .string { data := #[] }, .int .i64 0, .int .i64 0, .string { data := #[] }, .int .i64 0, .slice none 0 0, .int .i64 0, .int .u64 0] 27)))
            have HX99 : Hid (((w1.alloc (.cells #[.int .i64 0, .int .i64 0, .int .i64 0, .int .i64 0, .string { data := #[] }, .string { data := #[] }, .string { data := #[] }, .int .i64 0, .int .i64 0, .string { data := #[] }, .int .i64 0, .slice none 0 0, .int .i64 0, .int .u64 0] 27)).alloc (.cells #[.int .i64 0, .int .i64 0, .int .i64 0, .int .i64 0, .string { data := #[] }, .string { data := #[] }, .string { data := #[] }, .int .i64 0, .int .i64 0, .string { data := #[] }, .int .i64 0, .slice none 0 0, .int .i64 0, .int .u64 0] 27)).heap[w1.heap.size + 1]? = some (.cells #[.int .i64 0, .int .i64 0, .int .i64 0, .int .i64 0, .string { data := #[] }, .string { data := #[] }, .string { data := #[] }, .int .i64 0, .int .i64 0, .string { data := #[] }, .int .i64 0, .slice none 0 0, .int .i64 0, .int .u64 0] 27 (0, 0))) := heap_at (by first | rfl | simp)
            have HW100 : W1.heap.size ≤ w1.heap.size + 1 := by have h := HS75.out.size; first | exact h | (simp only [World.size_alloc] at h; first | exact h | omega) | omega
            have HN101 : w1.heap.size + 1 ≠ w1.heap.size := by have h := (Array.getElem?_eq_some_iff.1 HX78.out).1; first | omega | (simp only [World.size_alloc] at h; omega)
            refine ⟨HS95.out, ?_⟩
            refine wpAnyH_all (rs := [3]) (by kernel_rfl) (by simp) ?_
            intro i hi
            simp only [List.mem_cons, List.not_mem_nil, or_false] at hi
            subst hi
            refine wpOp_of_list rfl ?_
            go_wp2_with (go_at_call 8; refine (HF4.out _ HS95.out).mono ?_; rintro e w2 ⟨A8, c8, rfl, hr, _, ht, hb⟩; have HX102 := Lib.hid (block_kept HX99.out hb); have HX103 := Lib.hid (block_kept HX96.out hb); have HX104 := Lib.hid (RR.below HX97.out hb); have HX105 := Lib.hid (Ty.below HX98.out hb); have HS106 := Lib.hid (Below.trans HS95.out (Below.mono hb HS95.out.size)); have HX107 := Lib.hid hr; have HX108 := Lib.hid ht; have hsz2 := hb.size; clear hb hr ht)
            refine ⟨HS106.out, ?_⟩
            refine ⟨by kernel_rfl, ?_⟩
            exact ⟨w1.heap.size + 1, w1.heap.size, A7, c7, A8, c8, rfl, zer_mk HX102.out HX103.out HS106.out HX104.out HX107.out HX105.out HX108.out HN101 HW100 HW79⟩
      · refine wpOp_of_list rfl ?_
        go_wp2
        have HS109 : Hid (Below W1.heap.size W1 (W1.drew.alloc (.cells #[.int .i64 0, .int .i64 0, .int .i64 0, .int .i64 0, .string { data := #[] }, .string { data := #[] }, .string { data := #[] }, .int .i64 0, .int .i64 0, .string { data := #[] }, .int .i64 0, .slice none 0 0, .int .i64 0, .int .u64 0] 27))) := Below.alloc HS0.out HS0.out.size (.cells #[.int .i64 0, .int .i64 0, .int .i64 0, .int .i64 0, .string { data := #[] }, .string { data := #[] }, .string { data := #[] }, .int .i64 0, .int .i64 0, .string { data := #[] }, .int .i64 0, .slice none 0 0, .int .i64 0, .int .u64 0] 27)
        have HX110 : Hid ((W1.drew.alloc (.cells #[.int .i64 0, .int .i64 0, .int .i64 0, .int .i64 0, .string { data := #[] }, .string { data := #[] }, .string { data := #[] }, .int .i64 0, .int .i64 0, .string { data := #[] }, .int .i64 0, .slice none 0 0, .int .i64 0, .int .u64 0] 27)).heap[W1.heap.size]? = some (.cells #[.int .i64 0, .int .i64 0, .int .i64 0, .int .i64 0, .string { data := #[] }, .string { data := #[] }, .string { data := #[] }, .int .i64 0, .int .i64 0, .string { data := #[] }, .int .i64 0, .slice none 0 0, .int .i64 0, .int .u64 0] 27 (0, 0))) := heap_at (by first | rfl | simp)
        have HW111 : W1.heap.size ≤ W1.heap.size := by have h := HS0.out.size; first | exact h | (simp only [World.size_alloc] at h; first | exact h | omega) | omega
        refine ⟨HS109.out, ?_⟩
        refine wpAnyH_all (rs := [1, 5]) (by kernel_rfl) (by simp) ?_
        intro i hi
        simp only [List.mem_cons, List.not_mem_nil, or_false] at hi
        rcases hi with rfl | rfl
        · refine wpOp_of_list rfl ?_
          go_wp2_with (go_at_call 8; refine (HF3.out _ HS109.out).mono ?_; rintro e w1 ⟨A7, c7, rfl, hr, _, ht, hb⟩; have HX112 := Lib.hid (block_kept HX110.out hb); have HS113 := Lib.hid (Below.trans HS109.out (Below.mono hb HS109.out.size)); have HX114 := Lib.hid hr; have HX115 := Lib.hid ht; have hsz1 := hb.size; clear hb hr ht)
          refine ⟨HS113.out, ?_⟩
          refine wpAnyH_all (rs := [3, 5]) (by kernel_rfl) (by simp) ?_
          intro i hi
          simp only [List.mem_cons, List.not_mem_nil, or_false] at hi
          rcases hi with rfl | rfl
          · refine wpOp_of_list rfl ?_
            go_wp2_with (go_at_call 8; refine (HF4.out _ HS113.out).mono ?_; rintro e w2 ⟨A8, c8, rfl, hr, _, ht, hb⟩; have HX116 := Lib.hid (block_kept HX112.out hb); have HX117 := Lib.hid (RR.below HX114.out hb); have HX118 := Lib.hid (Ty.below HX115.out hb); have HS119 := Lib.hid (Below.trans HS113.out (Below.mono hb HS113.out.size)); have HX120 := Lib.hid hr; have HX121 := Lib.hid ht; have hsz2 := hb.size; clear hb hr ht)
            refine ⟨HS119.out, ?_⟩
            refine wpAnyH_all (rs := [5]) (by kernel_rfl) (by simp) ?_
            intro i hi
            simp only [List.mem_cons, List.not_mem_nil, or_false] at hi
            subst hi
            refine wpOp_of_list rfl ?_
            go_wp2
            have HS122 : Hid (Below W1.heap.size W1 (w2.alloc (.cells #[.int .i64 0, .int .i64 0, .int .i64 0, .int .i64 0, .string { data := #[] }, .string { data := #[] }, .string { data := #[] }, .int .i64 0, .int .i64 0, .string { data := #[] }, .int .i64 0, .slice none 0 0, .int .i64 0, .int .u64 0] 27))) := Below.alloc HS119.out HS119.out.size (.cells #[.int .i64 0, .int .i64 0, .int .i64 0, .int .i64 0, .string { data := #[] }, .string { data := #[] }, .string { data := #[] }, .int .i64 0, .int .i64 0, .string { data := #[] }, .int .i64 0, .slice none 0 0, .int .i64 0, .int .u64 0] 27)
            have HX123 := Lib.hid (block_old HX116.out (.cells #[.int .i64 0, .int .i64 0, .int .i64 0, .int .i64 0, .string { data := #[] }, .string { data := #[] }, .string { data := #[] }, .int .i64 0, .int .i64 0, .string { data := #[] }, .int .i64 0, .slice none 0 0, .int .i64 0, .int .u64 0] 27))
            have HX124 := Lib.hid (RR.below HX117.out (Below.alloc (Below.refl _ _) (Nat.le_refl _) (.cells #[.int .i64 0, .int .i64 0, .int .i64 0, .int .i64 0, .string { data := #[] }, .string { data := #[] }, .string { data := #[] }, .int .i64 0, .int .i64 0, .string { data := #[] }, .int .i64 0, .slice none 0 0, .int .i64 0, .int .u64 0] 27)))
            have HX125 := Lib.hid (RR.below HX120.out (Below.alloc (Below.refl _ _) (Nat.le_refl _) (.cells #[.int .i64 0, .int .i64 0, .int .i64 0, .int .i64 0, .string { data := #[] }, .string { data := #[] }, .string { data := #[] }, .int .i64 0, .int .i64 0, .string { data := #[] }, .int .i64 0, .slice none 0 0, .int .i64 0, .int .u64 0] 27)))
            have HX126 := Lib.hid (Ty.below HX118.out (Below.alloc (Below.refl _ _) (Nat.le_refl _) (.cells #[.int .i64 0, .int .i64 0, .int .i64 0, .int .i64 0, .string { data := #[] }, .string { data := #[] }, .string { data := #[] }, .int .i64 0, .int .i64 0, .string { data := #[] }, .int .i64 0, .slice none 0 0, .int .i64 0, .int .u64 0] 27)))
            have HX127 := Lib.hid (Ty.below HX121.out (Below.alloc (Below.refl _ _) (Nat.le_refl _) (.cells #[.int .i64 0, .int .i64 0, .int .i64 0, .int .i64 0, .string { data := #[] }, .string { data := #[] }, .string { data := #[] }, .int .i64 0, .int .i64 0, .string { data := #[] }, .int .i64 0, .slice none 0 0, .int .i64 0, .int .u64 0] 27)))
            have HX128 : Hid ((w2.alloc (.cells #[.int .i64 0, .int .i64 0, .int .i64 0, .int .i64 0, .string { data := #[] }, .string { data := #[] }, .string { data := #[] }, .int .i64 0, .int .i64 0, .string { data := #[] }, .int .i64 0, .slice none 0 0, .int .i64 0, .int .u64 0] 27)).heap[w2.heap.size]? = some (.cells #[.int .i64 0, .int .i64 0, .int .i64 0, .int .i64 0, .string { data := #[] }, .string { data := #[] }, .string { data := #[] }, .int .i64 0, .int .i64 0, .string { data := #[] }, .int .i64 0, .slice none 0 0, .int .i64 0, .int .u64 0] 27 (0, 0))) := heap_at (by first | rfl | simp)
            have HW129 : W1.heap.size ≤ w2.heap.size := by have h := HS119.out.size; first | exact h | (simp only [World.size_alloc] at h; first | exact h | omega) | omega
            have HN130 : W1.heap.size ≠ w2.heap.size := by have h := (Array.getElem?_eq_some_iff.1 HX116.out).1; first | omega | (simp only [World.size_alloc] at h; omega)
            refine ⟨HS122.out, ?_⟩
            refine ⟨by kernel_rfl, ?_⟩
            exact ⟨W1.heap.size, w2.heap.size, A7, c7, A8, c8, rfl, zer_mk HX123.out HX128.out HS122.out HX124.out HX125.out HX126.out HX127.out HN130 HW111 HW129⟩
          · refine wpOp_of_list rfl ?_
            go_wp2
            have HS131 : Hid (Below W1.heap.size W1 (w1.alloc (.cells #[.int .i64 0, .int .i64 0, .int .i64 0, .int .i64 0, .string { data := #[] }, .string { data := #[] }, .string { data := #[] }, .int .i64 0, .int .i64 0, .string { data := #[] }, .int .i64 0, .slice none 0 0, .int .i64 0, .int .u64 0] 27))) := Below.alloc HS113.out HS113.out.size (.cells #[.int .i64 0, .int .i64 0, .int .i64 0, .int .i64 0, .string { data := #[] }, .string { data := #[] }, .string { data := #[] }, .int .i64 0, .int .i64 0, .string { data := #[] }, .int .i64 0, .slice none 0 0, .int .i64 0, .int .u64 0] 27)
            have HX132 := Lib.hid (block_old HX112.out (.cells #[.int .i64 0, .int .i64 0, .int .i64 0, .int .i64 0, .string { data := #[] }, .string { data := #[] }, .string { data := #[] }, .int .i64 0, .int .i64 0, .string { data := #[] }, .int .i64 0, .slice none 0 0, .int .i64 0, .int .u64 0] 27))
            have HX133 := Lib.hid (RR.below HX114.out (Below.alloc (Below.refl _ _) (Nat.le_refl _) (.cells #[.int .i64 0, .int .i64 0, .int .i64 0, .int .i64 0, .string { data := #[] }, .string { data := #[] }, .string { data := #[] }, .int .i64 0, .int .i64 0, .string { data := #[] }, .int .i64 0, .slice none 0 0, .int .i64 0, .int .u64 0] 27)))
            have HX134 := Lib.hid (Ty.below HX115.out (Below.alloc (Below.refl _ _) (Nat.le_refl _) (.cells #[.int .i64 0, .int .i64 0, .int .i64 0, .int .i64 0, .string { data := #[] }, .string { data := #[] }, .string { data := #[] }, .int .i64 0, .int .i64 0, .string { data := #[] }, .int .i64 0, .slice none 0 0, .int .i64 0, .int .u64 0] 27)))
            have HX135 : Hid ((w1.alloc (.cells #[.int .i64 0, .int .i64 0, .int .i64 0, .int .i64 0, .string { data := #[] }, .string { data := #[] }, .string { data := #[] }, .int .i64 0, .int .i64 0, .string { data := #[] }, .int .i64 0, .slice none 0 0, .int .i64 0, .int .u64 0] 27)).heap[w1.heap.size]? = some (.cells #[.int .i64 0, .int .i64 0, .int .i64 0, .int .i64 0, .string { data := #[] }, .string { data := #[] }, .string { data := #[] }, .int .i64 0, .int .i64 0, .string { data := #[] }, .int .i64 0, .slice none 0 0, .int .i64 0, .int .u64 0] 27 (0, 0))) := heap_at (by first | rfl | simp)
            have HW136 : W1.heap.size ≤ w1.heap.size := by have h := HS113.out.size; first | exact h | (simp only [World.size_alloc] at h; first | exact h | omega) | omega
            have HN137 : W1.heap.size ≠ w1.heap.size := by have h := (Array.getElem?_eq_some_iff.1 HX112.out).1; first | omega | (simp only [World.size_alloc] at h; omega)
            refine ⟨HS131.out, ?_⟩
            refine wpAnyH_all (rs := [3]) (by kernel_rfl) (by simp) ?_
            intro i hi
            simp only [List.mem_cons, List.not_mem_nil, or_false] at hi
            subst hi
            refine wpOp_of_list rfl ?_
            go_wp2_with (go_at_call 8; refine (HF4.out _ HS131.out).mono ?_; rintro e w2 ⟨A8, c8, rfl, hr, _, ht, hb⟩; have HX138 := Lib.hid (block_kept HX132.out hb); have HX139 := Lib.hid (block_kept HX135.out hb); have HX140 := Lib.hid (RR.below HX133.out hb); have HX141 := Lib.hid (Ty.below HX134.out hb); have HS142 := Lib.hid (Below.trans HS131.out (Below.mono hb HS131.out.size)); have HX143 := Lib.hid hr; have HX144 := Lib.hid ht; have hsz2 := hb.size; clear hb hr ht)
            refine ⟨HS142.out, ?_⟩
            refine ⟨by kernel_rfl, ?_⟩
            exact ⟨W1.heap.size, w1.heap.size, A7, c7, A8, c8, rfl, zer_mk HX138.out HX139.out HS142.out HX140.out HX143.out HX141.out HX144.out HN137 HW111 HW136⟩
        · refine wpOp_of_list rfl ?_
          go_wp2
          have HS145 : Hid (Below W1.heap.size W1 ((W1.drew.alloc (.cells #[.int .i64 0, .int .i64 0, .int .i64 0, .int .i64 0, .string { data := #[] }, .string { data := #[] }, .string { data := #[] }, .int .i64 0, .int .i64 0, .string { data := #[] }, .int .i64 0, .slice none 0 0, .int .i64 0, .int .u64 0] 27)).alloc (.cells #[.int .i64 0, .int .i64 0, .int .i64 0, .int .i64 0, .string { data := #[] }, .string { data := #[] }, .string { data := #[] }, .int .i64 0, .int .i64 0, .string { data := #[] }, .int .i64 0, .slice none 0 0, .int .i64 0, .int .u64 0] 27))) := Below.alloc HS109.out HS109.out.size (.cells #[.int .i64 0, .int .i64 0, .int .i64 0, .int .i64 0, .string { data := #[] }, .string { data := #[] }, .string { data := #[] }, .int .i64 0, .int .i64 0, .string { data := #[] }, .int .i64 0, .slice none 0 0, .int .i64 0, .int .u64 0] 27)
          have HX146 := Lib.hid (block_old HX110.out (.cells #[.int .i64 0, .int .i64 0, .int .i64 0, .int .i64 0, .string { data := #[] }, .string { data := #[] }, .string { data := #[] }, .int .i64 0, .int .i64 0, .string { data := #[] }, .int .i64 0, .slice none 0 0, .int .i64 0, .int .u64 0] 27))
          have HX147 : Hid (((W1.drew.alloc (.cells #[.int .i64 0, .int .i64 0, .int .i64 0, .int .i64 0, .string { data := #[] }, .string { data := #[] }, .string { data := #[] }, .int .i64 0, .int .i64 0, .string { data := #[] }, .int .i64 0, .slice none 0 0, .int .i64 0, .int .u64 0] 27)).alloc (.cells #[.int .i64 0, .int .i64 0, .int .i64 0, .int .i64 0, .string { data := #[] }, .string { data := #[] }, .string { data := #[] }, .int .i64 0, .int .i64 0, .string { data := #[] }, .int .i64 0, .slice none 0 0, .int .i64 0, .int .u64 0] 27)).heap[W1.heap.size + 1]? = some (.cells #[.int .i64 0, .int .i64 0, .int .i64 0, .int .i64 0, .string { data := #[] }, .string { data := #[] }, .string { data := #[] }, .int .i64 0, .int .i64 0, .string { data := #[] }, .int .i64 0, .slice none 0 0, .int .i64 0, .int .u64 0] 27 (0, 0))) := heap_at (by first | rfl | simp)
          have HW148 : W1.heap.size ≤ W1.heap.size + 1 := by have h := HS109.out.size; first | exact h | (simp only [World.size_alloc] at h; first | exact h | omega) | omega
          have HN149 : W1.heap.size ≠ W1.heap.size + 1 := by have h := (Array.getElem?_eq_some_iff.1 HX110.out).1; first | omega | (simp only [World.size_alloc] at h; omega)
          refine ⟨HS145.out, ?_⟩
          refine wpAnyH_all (rs := [1]) (by kernel_rfl) (by simp) ?_
          intro i hi
          simp only [List.mem_cons, List.not_mem_nil, or_false] at hi
          subst hi
          refine wpOp_of_list rfl ?_
          go_wp2_with (go_at_call 8; refine (HF3.out _ HS145.out).mono ?_; rintro e w1 ⟨A7, c7, rfl, hr, _, ht, hb⟩; have HX150 := Lib.hid (block_kept HX146.out hb); have HX151 := Lib.hid (block_kept HX147.out hb); have HS152 := Lib.hid (Below.trans HS145.out (Below.mono hb HS145.out.size)); have HX153 := Lib.hid hr; have HX154 := Lib.hid ht; have hsz1 := hb.size; clear hb hr ht)
          refine ⟨HS152.out, ?_⟩
          refine wpAnyH_all (rs := [3]) (by kernel_rfl) (by simp) ?_
          intro i hi
          simp only [List.mem_cons, List.not_mem_nil, or_false] at hi
          subst hi
          refine wpOp_of_list rfl ?_
          go_wp2_with (go_at_call 8; refine (HF4.out _ HS152.out).mono ?_; rintro e w2 ⟨A8, c8, rfl, hr, _, ht, hb⟩; have HX155 := Lib.hid (block_kept HX150.out hb); have HX156 := Lib.hid (block_kept HX151.out hb); have HX157 := Lib.hid (RR.below HX153.out hb); have HX158 := Lib.hid (Ty.below HX154.out hb); have HS159 := Lib.hid (Below.trans HS152.out (Below.mono hb HS152.out.size)); have HX160 := Lib.hid hr; have HX161 := Lib.hid ht; have hsz2 := hb.size; clear hb hr ht)
          refine ⟨HS159.out, ?_⟩
          refine ⟨by kernel_rfl, ?_⟩
          exact ⟨W1.heap.size, W1.heap.size + 1, A7, c7, A8, c8, rfl, zer_mk HX155.out HX156.out HS159.out HX157.out HX160.out HX158.out HX161.out HN149 HW111 HW148⟩
      · refine wpOp_of_list rfl ?_
        go_wp2
        have HS162 : Hid (Below W1.heap.size W1 (W1.drew.alloc (.cells #[.int .i64 0, .int .i64 0, .int .i64 0, .int .i64 0, .string { data := #[] }, .string { data := #[] }, .string { data := #[] }, .int .i64 0, .int .i64 0, .string { data := #[] }, .int .i64 0, .slice none 0 0, .int .i64 0, .int .u64 0] 27))) := Below.alloc HS0.out HS0.out.size (.cells #[.int .i64 0, .int .i64 0, .int .i64 0, .int .i64 0, .string { data := #[] }, .string { data := #[] }, .string { data := #[] }, .int .i64 0, .int .i64 0, .string { data := #[] }, .int .i64 0, .slice none 0 0, .int .i64 0, .int .u64 0] 27)
        have HX163 : Hid ((W1.drew.alloc (.cells #[.int .i64 0, .int .i64 0, .int .i64 0, .int .i64 0, .string { data := #[] }, .string { data := #[] }, .string { data := #[] }, .int .i64 0, .int .i64 0, .string { data := #[] }, .int .i64 0, .slice none 0 0, .int .i64 0, .int .u64 0] 27)).heap[W1.heap.size]? = some (.cells #[.int .i64 0, .int .i64 0, .int .i64 0, .int .i64 0, .string { data := #[] }, .string { data := #[] }, .string { data := #[] }, .int .i64 0, .int .i64 0, .string { data := #[] }, .int .i64 0, .slice none 0 0, .int .i64 0, .int .u64 0] 27 (0, 0))) := heap_at (by first | rfl | simp)
        have HW164 : W1.heap.size ≤ W1.heap.size := by have h := HS0.out.size; first | exact h | (simp only [World.size_alloc] at h; first | exact h | omega) | omega
        refine ⟨HS162.out, ?_⟩
        refine wpAnyH_all (rs := [1, 4]) (by kernel_rfl) (by simp) ?_
        intro i hi
        simp only [List.mem_cons, List.not_mem_nil, or_false] at hi
        rcases hi with rfl | rfl
        · refine wpOp_of_list rfl ?_
          go_wp2_with (go_at_call 8; refine (HF3.out _ HS162.out).mono ?_; rintro e w1 ⟨A7, c7, rfl, hr, _, ht, hb⟩; have HX165 := Lib.hid (block_kept HX163.out hb); have HS166 := Lib.hid (Below.trans HS162.out (Below.mono hb HS162.out.size)); have HX167 := Lib.hid hr; have HX168 := Lib.hid ht; have hsz1 := hb.size; clear hb hr ht)
          refine ⟨HS166.out, ?_⟩
          refine wpAnyH_all (rs := [3, 4]) (by kernel_rfl) (by simp) ?_
          intro i hi
          simp only [List.mem_cons, List.not_mem_nil, or_false] at hi
          rcases hi with rfl | rfl
          · refine wpOp_of_list rfl ?_
            go_wp2_with (go_at_call 8; refine (HF4.out _ HS166.out).mono ?_; rintro e w2 ⟨A8, c8, rfl, hr, _, ht, hb⟩; have HX169 := Lib.hid (block_kept HX165.out hb); have HX170 := Lib.hid (RR.below HX167.out hb); have HX171 := Lib.hid (Ty.below HX168.out hb); have HS172 := Lib.hid (Below.trans HS166.out (Below.mono hb HS166.out.size)); have HX173 := Lib.hid hr; have HX174 := Lib.hid ht; have hsz2 := hb.size; clear hb hr ht)
            refine ⟨HS172.out, ?_⟩
            refine wpAnyH_all (rs := [4]) (by kernel_rfl) (by simp) ?_
            intro i hi
            simp only [List.mem_cons, List.not_mem_nil, or_false] at hi
            subst hi
            refine wpOp_of_list rfl ?_
            go_wp2
            have HS175 : Hid (Below W1.heap.size W1 (w2.alloc (.cells #[.int .i64 0, .int .i64 0, .int .i64 0, .int .i64 0, .string { data := #[] }, .string { data := #[] }, .string { data := #[] }, .int .i64 0, .int .i64 0, .string { data := #[] }, .int .i64 0, .slice none 0 0, .int .i64 0, .int .u64 0] 27))) := Below.alloc HS172.out HS172.out.size (.cells #[.int .i64 0, .int .i64 0, .int .i64 0, .int .i64 0, .string { data := #[] }, .string { data := #[] }, .string { data := #[] }, .int .i64 0, .int .i64 0, .string { data := #[] }, .int .i64 0, .slice none 0 0, .int .i64 0, .int .u64 0] 27)
            have HX176 := Lib.hid (block_old HX169.out (.cells #[.int .i64 0, .int .i64 0, .int .i64 0, .int .i64 0, .string { data := #[] }, .string { data := #[] }, .string { data := #[] }, .int .i64 0, .int .i64 0, .string { data := #[] }, .int .i64 0, .slice none 0 0, .int .i64 0, .int .u64 0] 27))
            have HX177 := Lib.hid (RR.below HX170.out (Below.alloc (Below.refl _ _) (Nat.le_refl _) (.cells #[.int .i64 0, .int .i64 0, .int .i64 0, .int .i64 0, .string { data := #[] }, .string { data := #[] }, .string { data := #[] }, .int .i64 0, .int .i64 0, .string { data := #[] }, .int .i64 0, .slice none 0 0, .int .i64 0, .int .u64 0] 27)))
            have HX178 := Lib.hid (RR.below HX173.out (Below.alloc (Below.refl _ _) (Nat.le_refl _) (.cells #[.int .i64 0, .int .i64 0, .int .i64 0, .int .i64 0, .string { data := #[] }, .string { data := #[] }, .string { data := #[] }, .int .i64 0, .int .i64 0, .string { data := #[] }, .int .i64 0, .slice none 0 0, .int .i64 0, .int .u64 0] 27)))
            have HX179 := Lib.hid (Ty.below HX171.out (Below.alloc (Below.refl _ _) (Nat.le_refl _) (.cells #[.int .i64 0, .int .i64 0, .int .i64 0, .int .i64 0, .string { data := #[] }, .string { data := #[] }, .string { data := #[] }, .int .i64 0, .int .i64 0, .string { data := #[] }, .int .i64 0, .slice none 0 0, .int .i64 0, .int .u64 0] 27)))
            have HX180 := Lib.hid (Ty.below HX174.out (Below.alloc (Below.refl _ _) (Nat.le_refl _) (.cells #[.int .i64 0, .int .i64 0, .int .i64 0, .int .i64 0, .string { data := #[] }, .string { data := #[] }, .string { data := #[] }, .int .i64 0, .int .i64 0, .string { data := #[] }, .int .i64 0, .slice none 0 0, .int .i64 0, .int .u64 0] 27)))
            have HX181 : Hid ((w2.alloc (.cells #[.int .i64 0, .int .i64 0, .int .i64 0, .int .i64 0, .string { data := #[] }, .string { data := #[] }, .string { data := #[] }, .int .i64 0, .int .i64 0, .string { data := #[] }, .int .i64 0, .slice none 0 0, .int .i64 0, .int .u64 0] 27)).heap[w2.heap.size]? = some (.cells #[.int .i64 0, .int .i64 0, .int .i64 0, .int .i64 0, .string { data := #[] }, .string { data := #[] }, .string { data := #[] }, .int .i64 0, .int .i64 0, .string { data := #[] }, .int .i64 0, .slice none 0 0, .int .i64 0, .int .u64 0] 27 (0, 0))) := heap_at (by first | rfl | simp)
            have HW182 : W1.heap.size ≤ w2.heap.size := by have h := HS172.out.size; first | exact h | (simp only [World.size_alloc] at h; first | exact h | omega) | omega
            have HN183 : w2.heap.size ≠ W1.heap.size := by have h := (Array.getElem?_eq_some_iff.1 HX169.out).1; first | omega | (simp only [World.size_alloc] at h; omega)
            refine ⟨HS175.out, ?_⟩
            refine ⟨by kernel_rfl, ?_⟩
            exact ⟨w2.heap.size, W1.heap.size, A7, c7, A8, c8, rfl, zer_mk HX181.out HX176.out HS175.out HX177.out HX178.out HX179.out HX180.out HN183 HW182 HW164⟩
          · refine wpOp_of_list rfl ?_
            go_wp2
            have HS184 : Hid (Below W1.heap.size W1 (w1.alloc (.cells #[.int .i64 0, .int .i64 0, .int .i64 0, .int .i64 0, .string { data := #[] }, .string { data := #[] }, .string { data := #[] }, .int .i64 0, .int .i64 0, .string { data := #[] }, .int .i64 0, .slice none 0 0, .int .i64 0, .int .u64 0] 27))) := Below.alloc HS166.out HS166.out.size (.cells #[.int .i64 0, .int .i64 0, .int .i64 0, .int .i64 0, .string { data := #[] }, .string { data := #[] }, .string { data := #[] }, .int .i64 0, .int .i64 0, .string { data := #[] }, .int .i64 0, .slice none 0 0, .int .i64 0, .int .u64 0] 27)
            have HX185 := Lib.hid (block_old HX165.out (.cells #[.int .i64 0, .int .i64 0, .int .i64 0, .int .i64 0, .string { data := #[] }, .string { data := #[] }, .string { data := #[] }, .int .i64 0, .int .i64 0, .string { data := #[] }, .int .i64 0, .slice none 0 0, .int .i64 0, .int .u64 0] 27))
            have HX186 := Lib.hid (RR.below HX167.out (Below.alloc (Below.refl _ _) (Nat.le_refl _) (.cells #[.int .i64 0, .int .i64 0, .int .i64 0, .int .i64 0, .string { data := #[] }, .string { data := #[] }, .string { data := #[] }, .int .i64 0, .int .i64 0, .string { data := #[] }, .int .i64 0, .slice none 0 0, .int .i64 0, .int .u64 0] 27)))
            have HX187 := Lib.hid (Ty.below HX168.out (Below.alloc (Below.refl _ _) (Nat.le_refl _) (.cells #[.int .i64 0, .int .i64 0, .int .i64 0, .int .i64 0, .string { data := #[] }, .string { data := #[] }, .string { data := #[] }, .int .i64 0, .int .i64 0, .string { data := #[] }, .int .i64 0, .slice none 0 0, .int .i64 0, .int .u64 0] 27)))
            have HX188 : Hid ((w1.alloc (.cells #[.int .i64 0, .int .i64 0, .int .i64 0, .int .i64 0, .string { data := #[] }, .string { data := #[] }, .string { data := #[] }, .int .i64 0, .int .i64 0, .string { data := #[] }, .int .i64 0, .slice none 0 0, .int .i64 0, .int .u64 0] 27)).heap[w1.heap.size]? = some (.cells #[.int .i64 0, .int .i64 0, .int .i64 0, .int .i64 0, .string { data := #[] }, .string { data := #[] }, .string { data := #[] }, .int .i64 0, .int .i64 0, .string { data := #[] }, .int .i64 0, .slice none 0 0, .int .i64 0, .int .u64 0] 27 (0, 0))) := heap_at (by first | rfl | simp)
            have HW189 : W1.heap.size ≤ w1.heap.size := by have h := HS166.out.size; first | exact h | (simp only [World.size_alloc] at h; first | exact h | omega) | omega
            have HN190 : w1.heap.size ≠ W1.heap.size := by have h := (Array.getElem?_eq_some_iff.1 HX165.out).1; first | omega | (simp only [World.size_alloc] at h; omega)
            refine ⟨HS184.out, ?_⟩
            refine wpAnyH_all (rs := [3]) (by kernel_rfl) (by simp) ?_
            intro i hi
            simp only [List.mem_cons, List.not_mem_nil, or_false] at hi
            subst hi
            refine wpOp_of_list rfl ?_
            go_wp2_with (go_at_call 8; refine (HF4.out _ HS184.out).mono ?_; rintro e w2 ⟨A8, c8, rfl, hr, _, ht, hb⟩; have HX191 := Lib.hid (block_kept HX188.out hb); have HX192 := Lib.hid (block_kept HX185.out hb); have HX193 := Lib.hid (RR.below HX186.out hb); have HX194 := Lib.hid (Ty.below HX187.out hb); have HS195 := Lib.hid (Below.trans HS184.out (Below.mono hb HS184.out.size)); have HX196 := Lib.hid hr; have HX197 := Lib.hid ht; have hsz2 := hb.size; clear hb hr ht)
            refine ⟨HS195.out, ?_⟩
            refine ⟨by kernel_rfl, ?_⟩
            exact ⟨w1.heap.size, W1.heap.size, A7, c7, A8, c8, rfl, zer_mk HX191.out HX192.out HS195.out HX193.out HX196.out HX194.out HX197.out HN190 HW189 HW164⟩
        · refine wpOp_of_list rfl ?_
          go_wp2
          have HS198 : Hid (Below W1.heap.size W1 ((W1.drew.alloc (.cells #[.int .i64 0, .int .i64 0, .int .i64 0, .int .i64 0, .string { data := #[] }, .string { data := #[] }, .string { data := #[] }, .int .i64 0, .int .i64 0, .string { data := #[] }, .int .i64 0, .slice none 0 0, .int .i64 0, .int .u64 0] 27)).alloc (.cells #[.int .i64 0, .int .i64 0, .int .i64 0, .int .i64 0, .string { data := #[] }, .string { data := #[] }, .string { data := #[] }, .int .i64 0, .int .i64 0, .string { data := #[] }, .int .i64 0, .slice none 0 0, .int .i64 0, .int .u64 0] 27))) := Below.alloc HS162.out HS162.out.size (.cells #[.int .i64 0, .int .i64 0, .int .i64 0, .int .i64 0, .string { data := #[] }, .string { data := #[] }, .string { data := #[] }, .int .i64 0, .int .i64 0, .string { data := #[] }, .int .i64 0, .slice none 0 0, .int .i64 0, .int .u64 0] 27)
          have HX199 := Lib.hid (block_old HX163.out (.cells #[.int .i64 0, .int .i64 0, .int .i64 0, .int .i64 0, .string { data := #[] }, .string { data := #[] }, .string { data := #[] }, .int .i64 0, .int .i64 0, .string { data := #[] }, .int .i64 0, .slice none 0 0, .int .i64 0, .int .u64 0] 27))
          have HX200 : Hid (((W1.drew.alloc (.cells #[.int .i64 0, .int .i64 0, .int .i64 0, .int .i64 0, .string { data := #[] }, .string { data := #[] }, .string { data := #[] }, .int .i64 0, .int .i64 0, .string { data := #[] }, .int .i64 0, .slice none 0 0, .int .i64 0, .int .u64 0] 27)).alloc (.cells #[.int .i64 0, .int .i64 0, .int .i64 0, .int .i64 0, .string { data := #[] }, .string { data := #[] }, .string { data := #[] }, .int .i64 0, .int .i64 0, .string { data := #[] }, .int .i64 0, .slice none 0 0, .int .i64 0, .int .u64 0] 27)).heap[W1.heap.size + 1]? = some (.cells #[.int .i64 0, .int .i64 0, .int .i64 0, .int .i64 0, .string { data := #[] }, .string { data := #[] }, .string { data := #[] }, .int .i64 0, .int .i64 0, .string { data := #[] }, .int .i64 0, .slice none 0 0, .int .i64 0, .int .u64 0] 27 (0, 0))) := heap_at (by first | rfl | simp)
          have HW201 : W1.heap.size ≤ W1.heap.size + 1 := by have h := HS162.out.size; first | exact h | (simp only [World.size_alloc] at h; first | exact h | omega) | omega
          have HN202 : W1.heap.size + 1 ≠ W1.heap.size := by have h := (Array.getElem?_eq_some_iff.1 HX163.out).1; first | omega | (simp only [World.size_alloc] at h; omega)
          refine ⟨HS198.out, ?_⟩
          refine wpAnyH_all (rs := [1]) (by kernel_rfl) (by simp) ?_
          intro i hi
          simp only [List.mem_cons, List.not_mem_nil, or_false] at hi
          subst hi
          refine wpOp_of_list rfl ?_
          go_wp2_with (go_at_call 8; refine (HF3.out _ HS198.out).mono ?_; rintro e w1 ⟨A7, c7, rfl, hr, _, ht, hb⟩; have HX203 := Lib.hid (block_kept HX200.out hb); have HX204 := Lib.hid (block_kept HX199.out hb); have HS205 := Lib.hid (Below.trans HS198.out (Below.mono hb HS198.out.size)); have HX206 := Lib.hid hr; have HX207 := Lib.hid ht; have hsz1 := hb.size; clear hb hr ht)
          refine ⟨HS205.out, ?_⟩
          refine wpAnyH_all (rs := [3]) (by kernel_rfl) (by simp) ?_
          intro i hi
          simp only [List.mem_cons, List.not_mem_nil, or_false] at hi
          subst hi
          refine wpOp_of_list rfl ?_
          go_wp2_with (go_at_call 8; refine (HF4.out _ HS205.out).mono ?_; rintro e w2 ⟨A8, c8, rfl, hr, _, ht, hb⟩; have HX208 := Lib.hid (block_kept HX203.out hb); have HX209 := Lib.hid (block_kept HX204.out hb); have HX210 := Lib.hid (RR.below HX206.out hb); have HX211 := Lib.hid (Ty.below HX207.out hb); have HS212 := Lib.hid (Below.trans HS205.out (Below.mono hb HS205.out.size)); have HX213 := Lib.hid hr; have HX214 := Lib.hid ht; have hsz2 := hb.size; clear hb hr ht)
          refine ⟨HS212.out, ?_⟩
          refine ⟨by kernel_rfl, ?_⟩
          exact ⟨W1.heap.size + 1, W1.heap.size, A7, c7, A8, c8, rfl, zer_mk HX208.out HX209.out HS212.out HX210.out HX213.out HX211.out HX214.out HN202 HW201 HW164⟩
    case rest =>
      rintro _ wy ⟨b7, b8, A7, c7, A8, c8, rfl, hz⟩
      simp only [List.drop_succ_cons, List.drop_zero]
      have hL := zer_lay (by decide) x y c7 c8 hz
      obtain ⟨⟨d0, d1, d2, d3, d4, d5, d6⟩, d7, d8, d9, d10, d11, d12, d13⟩ := blk14 hz.1
      obtain ⟨⟨e0, e1, e2, e3, e4, e5, e6⟩, e7, e8, e9, e10, e11, e12, e13⟩ := blk14 hz.2.1
      have fd := fro14 hz.1
      have fe := fro14 hz.2.1
      have hne := hz.2.2.1
      have hne2 := Ne.symm hne
      have HL2 := Lib.hid (And.intro hL (HL.out.kept hL.2.2.1))
      clear hz hL X Y HL
      go_upto_region 3 with fail
      clear d0 d1 d2 d3 d4 d5 d6 d7 d8 d9 d10 d11 d12 d13 e0 e1 e2 e3 e4 e5 e6 e7 e8 e9 e10 e11 e12 e13 fd fe hne hne2
      generalize ((((((((((((((((((((((((((((wy).setCell ⟨b7, 0, none⟩ (.int .i64 x.k)).setCell ⟨b7, 1, none⟩ (.int .i64 x.p)).setCell ⟨b7, 2, none⟩ (.int .i64 x.d)).setCell ⟨b7, 3, none⟩ (.int .i64 x.t.n)).setCell ⟨b7, 4, none⟩ (.string x.t.b)).setCell ⟨b7, 5, none⟩ (.string x.t.s)).setCell ⟨b7, 6, none⟩ (.string x.t.i)).setCell ⟨b7, 7, none⟩ (.int .i64 x.t.q)).setCell ⟨b7, 8, none⟩ (.int .i64 x.t.p)).setCell ⟨b7, 9, none⟩ (.string x.n)).setCell ⟨b7, 10, none⟩ (.int .i64 x.a)).setCell ⟨b7, 11, none⟩ (.slice A7 lx.length c7)).setCell ⟨b7, 12, none⟩ (.int .i64 x.hi)).setCell ⟨b7, 13, none⟩ (.int .u64 x.lo)).setCell ⟨b8, 0, none⟩ (.int .i64 y.k)).setCell ⟨b8, 1, none⟩ (.int .i64 y.p)).setCell ⟨b8, 2, none⟩ (.int .i64 y.d)).setCell ⟨b8, 3, none⟩ (.int .i64 y.t.n)).setCell ⟨b8, 4, none⟩ (.string y.t.b)).setCell ⟨b8, 5, none⟩ (.string y.t.s)).setCell ⟨b8, 6, none⟩ (.string y.t.i)).setCell ⟨b8, 7, none⟩ (.int .i64 y.t.q)).setCell ⟨b8, 8, none⟩ (.int .i64 y.t.p)).setCell ⟨b8, 9, none⟩ (.string y.n)).setCell ⟨b8, 10, none⟩ (.int .i64 y.a)).setCell ⟨b8, 11, none⟩ (.slice A8 ly.length c8)).setCell ⟨b8, 12, none⟩ (.int .i64 y.hi)).setCell ⟨b8, 13, none⟩ (.int .u64 y.lo) = W3 at HL2 ⊢
      obtain ⟨LF, LP⟩ := HL2.out
      have HBW : Hid (Below w.heap.size w W3) := HB0.out.trans (LP.2.2.1.mono HB0.out.size)
      have HK3 := Lib.hid (HK.out.below LP.2.2.1 HK.out.1)
      obtain ⟨r1, hr1⟩ : ∃ r, r = sameN x y lx ly := ⟨_, rfl⟩
      have hxx : true = sameN x x lx lx := by unfold sameN; rw [sing_eqS]; unfold eqS eqT; simp
      have CK : Hid (∀ p : InW W3, Calls Tryd.prog 9 #[] p.val fun e w' => e = .returned (.bool true) ∧ ∃ q : InW W3, w' = q.val) := fun p => calls_in (known_any p.val (HK3.out.kept p.bel))
      have CE : Hid (∀ p : InW W3, Calls Tryd.prog 21 #[.agg #[.int .i64 x.k, .int .i64 x.p, .int .i64 x.d, .int .i64 x.t.n, .string x.t.b, .string x.t.s, .string x.t.i, .int .i64 x.t.q, .int .i64 x.t.p, .string x.n, .int .i64 x.a, .slice A5 lx.length c5, .int .i64 x.hi, .int .u64 x.lo], .agg #[.int .i64 y.k, .int .i64 y.p, .int .i64 y.d, .int .i64 y.t.n, .string y.t.b, .string y.t.s, .string y.t.i, .int .i64 y.t.q, .int .i64 y.t.p, .string y.n, .int .i64 y.a, .slice A6 ly.length c6, .int .i64 y.hi, .int .u64 y.lo]] p.val fun e w' => e = .returned (.bool r1) ∧ ∃ q : InW W3, w' = q.val) := fun p => calls_in (equal_any p.val x y A5 A6 lx.length c5 ly.length c6 lx ly (LP.2.2.2.1.below p.bel) rfl (LP.2.2.2.2.below p.bel) rfl hlx hr1)
      have CS : Hid (∀ p : InW W3, Calls Tryd.prog 22 #[.agg #[.int .i64 x.k, .int .i64 x.p, .int .i64 x.d, .int .i64 x.t.n, .string x.t.b, .string x.t.s, .string x.t.i, .int .i64 x.t.q, .int .i64 x.t.p, .string x.n, .int .i64 x.a, .slice A7 lx.length c7, .int .i64 x.hi, .int .u64 x.lo], .agg #[.int .i64 y.k, .int .i64 y.p, .int .i64 y.d, .int .i64 y.t.n, .string y.t.b, .string y.t.s, .string y.t.i, .int .i64 y.t.q, .int .i64 y.t.p, .string y.n, .int .i64 y.a, .slice A8 ly.length c8, .int .i64 y.hi, .int .u64 y.lo]] p.val fun e w' => e = .returned (.bool r1) ∧ ∃ q : InW W3, w' = q.val) := fun p => calls_in (rsame_any p.val x y A7 A8 lx.length c7 ly.length c8 lx ly (LF.2.2.2.1.below p.bel) rfl (LF.2.2.2.2.below p.bel) rfl hlx hr1)
      have CX : Hid (∀ p : InW W3, Calls Tryd.prog 21 #[.agg #[.int .i64 x.k, .int .i64 x.p, .int .i64 x.d, .int .i64 x.t.n, .string x.t.b, .string x.t.s, .string x.t.i, .int .i64 x.t.q, .int .i64 x.t.p, .string x.n, .int .i64 x.a, .slice A5 lx.length c5, .int .i64 x.hi, .int .u64 x.lo], .agg #[.int .i64 x.k, .int .i64 x.p, .int .i64 x.d, .int .i64 x.t.n, .string x.t.b, .string x.t.s, .string x.t.i, .int .i64 x.t.q, .int .i64 x.t.p, .string x.n, .int .i64 x.a, .slice A5 lx.length c5, .int .i64 x.hi, .int .u64 x.lo]] p.val fun e w' => e = .returned (.bool true) ∧ ∃ q : InW W3, w' = q.val) := fun p => calls_in (equal_any p.val x x A5 A5 lx.length c5 lx.length c5 lx lx (LP.2.2.2.1.below p.bel) rfl (LP.2.2.2.1.below p.bel) rfl hlx hxx)
      have err : (r1 == r1) = true := by simp
      have HLF := Lib.hid LF
      have HLP := Lib.hid LP
      have Vp := blk14 LP.1
      have p0 : ∀ p : InW W3, p.val.cell? ⟨b5, 0, none⟩ = some (.int .i64 x.k) := fun p => p.cell Vp.1.1
      have p1 : ∀ p : InW W3, p.val.cell? ⟨b5, 1, none⟩ = some (.int .i64 x.p) := fun p => p.cell Vp.1.2.1
      have p2 : ∀ p : InW W3, p.val.cell? ⟨b5, 2, none⟩ = some (.int .i64 x.d) := fun p => p.cell Vp.1.2.2.1
      have p3 : ∀ p : InW W3, p.val.cell? ⟨b5, 3, none⟩ = some (.int .i64 x.t.n) := fun p => p.cell Vp.1.2.2.2.1
      have p4 : ∀ p : InW W3, p.val.cell? ⟨b5, 4, none⟩ = some (.string x.t.b) := fun p => p.cell Vp.1.2.2.2.2.1
      have p5 : ∀ p : InW W3, p.val.cell? ⟨b5, 5, none⟩ = some (.string x.t.s) := fun p => p.cell Vp.1.2.2.2.2.2.1
      have p6 : ∀ p : InW W3, p.val.cell? ⟨b5, 6, none⟩ = some (.string x.t.i) := fun p => p.cell Vp.1.2.2.2.2.2.2
      have p7 : ∀ p : InW W3, p.val.cell? ⟨b5, 7, none⟩ = some (.int .i64 x.t.q) := fun p => p.cell Vp.2.1
      have p8 : ∀ p : InW W3, p.val.cell? ⟨b5, 8, none⟩ = some (.int .i64 x.t.p) := fun p => p.cell Vp.2.2.1
      have p9 : ∀ p : InW W3, p.val.cell? ⟨b5, 9, none⟩ = some (.string x.n) := fun p => p.cell Vp.2.2.2.1
      have p10 : ∀ p : InW W3, p.val.cell? ⟨b5, 10, none⟩ = some (.int .i64 x.a) := fun p => p.cell Vp.2.2.2.2.1
      have p11 : ∀ p : InW W3, p.val.cell? ⟨b5, 11, none⟩ = some (.slice A5 lx.length c5) := fun p => p.cell Vp.2.2.2.2.2.1
      have p12 : ∀ p : InW W3, p.val.cell? ⟨b5, 12, none⟩ = some (.int .i64 x.hi) := fun p => p.cell Vp.2.2.2.2.2.2.1
      have p13 : ∀ p : InW W3, p.val.cell? ⟨b5, 13, none⟩ = some (.int .u64 x.lo) := fun p => p.cell Vp.2.2.2.2.2.2.2
      clear Vp
      have Vq := blk14 LP.2.1
      have q0 : ∀ p : InW W3, p.val.cell? ⟨b6, 0, none⟩ = some (.int .i64 y.k) := fun p => p.cell Vq.1.1
      have q1 : ∀ p : InW W3, p.val.cell? ⟨b6, 1, none⟩ = some (.int .i64 y.p) := fun p => p.cell Vq.1.2.1
      have q2 : ∀ p : InW W3, p.val.cell? ⟨b6, 2, none⟩ = some (.int .i64 y.d) := fun p => p.cell Vq.1.2.2.1
      have q3 : ∀ p : InW W3, p.val.cell? ⟨b6, 3, none⟩ = some (.int .i64 y.t.n) := fun p => p.cell Vq.1.2.2.2.1
      have q4 : ∀ p : InW W3, p.val.cell? ⟨b6, 4, none⟩ = some (.string y.t.b) := fun p => p.cell Vq.1.2.2.2.2.1
      have q5 : ∀ p : InW W3, p.val.cell? ⟨b6, 5, none⟩ = some (.string y.t.s) := fun p => p.cell Vq.1.2.2.2.2.2.1
      have q6 : ∀ p : InW W3, p.val.cell? ⟨b6, 6, none⟩ = some (.string y.t.i) := fun p => p.cell Vq.1.2.2.2.2.2.2
      have q7 : ∀ p : InW W3, p.val.cell? ⟨b6, 7, none⟩ = some (.int .i64 y.t.q) := fun p => p.cell Vq.2.1
      have q8 : ∀ p : InW W3, p.val.cell? ⟨b6, 8, none⟩ = some (.int .i64 y.t.p) := fun p => p.cell Vq.2.2.1
      have q9 : ∀ p : InW W3, p.val.cell? ⟨b6, 9, none⟩ = some (.string y.n) := fun p => p.cell Vq.2.2.2.1
      have q10 : ∀ p : InW W3, p.val.cell? ⟨b6, 10, none⟩ = some (.int .i64 y.a) := fun p => p.cell Vq.2.2.2.2.1
      have q11 : ∀ p : InW W3, p.val.cell? ⟨b6, 11, none⟩ = some (.slice A6 ly.length c6) := fun p => p.cell Vq.2.2.2.2.2.1
      have q12 : ∀ p : InW W3, p.val.cell? ⟨b6, 12, none⟩ = some (.int .i64 y.hi) := fun p => p.cell Vq.2.2.2.2.2.2.1
      have q13 : ∀ p : InW W3, p.val.cell? ⟨b6, 13, none⟩ = some (.int .u64 y.lo) := fun p => p.cell Vq.2.2.2.2.2.2.2
      clear Vq
      have Vr := blk14 LF.1
      have r0 : ∀ p : InW W3, p.val.cell? ⟨b7, 0, none⟩ = some (.int .i64 x.k) := fun p => p.cell Vr.1.1
      have r1 : ∀ p : InW W3, p.val.cell? ⟨b7, 1, none⟩ = some (.int .i64 x.p) := fun p => p.cell Vr.1.2.1
      have r2 : ∀ p : InW W3, p.val.cell? ⟨b7, 2, none⟩ = some (.int .i64 x.d) := fun p => p.cell Vr.1.2.2.1
      have r3 : ∀ p : InW W3, p.val.cell? ⟨b7, 3, none⟩ = some (.int .i64 x.t.n) := fun p => p.cell Vr.1.2.2.2.1
      have r4 : ∀ p : InW W3, p.val.cell? ⟨b7, 4, none⟩ = some (.string x.t.b) := fun p => p.cell Vr.1.2.2.2.2.1
      have r5 : ∀ p : InW W3, p.val.cell? ⟨b7, 5, none⟩ = some (.string x.t.s) := fun p => p.cell Vr.1.2.2.2.2.2.1
      have r6 : ∀ p : InW W3, p.val.cell? ⟨b7, 6, none⟩ = some (.string x.t.i) := fun p => p.cell Vr.1.2.2.2.2.2.2
      have r7 : ∀ p : InW W3, p.val.cell? ⟨b7, 7, none⟩ = some (.int .i64 x.t.q) := fun p => p.cell Vr.2.1
      have r8 : ∀ p : InW W3, p.val.cell? ⟨b7, 8, none⟩ = some (.int .i64 x.t.p) := fun p => p.cell Vr.2.2.1
      have r9 : ∀ p : InW W3, p.val.cell? ⟨b7, 9, none⟩ = some (.string x.n) := fun p => p.cell Vr.2.2.2.1
      have r10 : ∀ p : InW W3, p.val.cell? ⟨b7, 10, none⟩ = some (.int .i64 x.a) := fun p => p.cell Vr.2.2.2.2.1
      have r11 : ∀ p : InW W3, p.val.cell? ⟨b7, 11, none⟩ = some (.slice A7 lx.length c7) := fun p => p.cell Vr.2.2.2.2.2.1
      have r12 : ∀ p : InW W3, p.val.cell? ⟨b7, 12, none⟩ = some (.int .i64 x.hi) := fun p => p.cell Vr.2.2.2.2.2.2.1
      have r13 : ∀ p : InW W3, p.val.cell? ⟨b7, 13, none⟩ = some (.int .u64 x.lo) := fun p => p.cell Vr.2.2.2.2.2.2.2
      clear Vr
      have Vs := blk14 LF.2.1
      have s0 : ∀ p : InW W3, p.val.cell? ⟨b8, 0, none⟩ = some (.int .i64 y.k) := fun p => p.cell Vs.1.1
      have s1 : ∀ p : InW W3, p.val.cell? ⟨b8, 1, none⟩ = some (.int .i64 y.p) := fun p => p.cell Vs.1.2.1
      have s2 : ∀ p : InW W3, p.val.cell? ⟨b8, 2, none⟩ = some (.int .i64 y.d) := fun p => p.cell Vs.1.2.2.1
      have s3 : ∀ p : InW W3, p.val.cell? ⟨b8, 3, none⟩ = some (.int .i64 y.t.n) := fun p => p.cell Vs.1.2.2.2.1
      have s4 : ∀ p : InW W3, p.val.cell? ⟨b8, 4, none⟩ = some (.string y.t.b) := fun p => p.cell Vs.1.2.2.2.2.1
      have s5 : ∀ p : InW W3, p.val.cell? ⟨b8, 5, none⟩ = some (.string y.t.s) := fun p => p.cell Vs.1.2.2.2.2.2.1
      have s6 : ∀ p : InW W3, p.val.cell? ⟨b8, 6, none⟩ = some (.string y.t.i) := fun p => p.cell Vs.1.2.2.2.2.2.2
      have s7 : ∀ p : InW W3, p.val.cell? ⟨b8, 7, none⟩ = some (.int .i64 y.t.q) := fun p => p.cell Vs.2.1
      have s8 : ∀ p : InW W3, p.val.cell? ⟨b8, 8, none⟩ = some (.int .i64 y.t.p) := fun p => p.cell Vs.2.2.1
      have s9 : ∀ p : InW W3, p.val.cell? ⟨b8, 9, none⟩ = some (.string y.n) := fun p => p.cell Vs.2.2.2.1
      have s10 : ∀ p : InW W3, p.val.cell? ⟨b8, 10, none⟩ = some (.int .i64 y.a) := fun p => p.cell Vs.2.2.2.2.1
      have s11 : ∀ p : InW W3, p.val.cell? ⟨b8, 11, none⟩ = some (.slice A8 ly.length c8) := fun p => p.cell Vs.2.2.2.2.2.1
      have s12 : ∀ p : InW W3, p.val.cell? ⟨b8, 12, none⟩ = some (.int .i64 y.hi) := fun p => p.cell Vs.2.2.2.2.2.2.1
      have s13 : ∀ p : InW W3, p.val.cell? ⟨b8, 13, none⟩ = some (.int .u64 y.lo) := fun p => p.cell Vs.2.2.2.2.2.2.2
      clear Vs
      clear LF LP HL2 HF1 HF2 HF3 HF4 HLA HLB HR5 HR6 hxx
      have HR1 := Lib.hid hr1
      clear hr1
      refine wp_region_quiet_any (C := fun w' => ∃ p : InW W3, w' = p.val) 16 (by kernel_rfl) (by kernel_rfl) (by kernel_rfl) ⟨⟨W3.drew, (Below.refl _ _).drew⟩, rfl⟩ ?_
      simp only [List.take_succ_cons, List.take_zero]
      repeat (go_big_quiet_step ((first | (go_at_call 9; (with_reducible exact CK.out _)) | (go_at_call 21; (with_reducible exact CX.out _)) | (go_at_call 21; (with_reducible exact CE.out _)) | (go_at_call 22; (with_reducible exact CS.out _)))))
      refine wpQuiet_nil ?_
      rintro _ ⟨q3, rfl⟩
      obtain ⟨wq, hbq⟩ := q3
      try dsimp only
      clear p0 p1 p2 p3 p4 p5 p6 p7 p8 p9 p10 p11 p12 p13 q0 q1 q2 q3 q4 q5 q6 q7 q8 q9 q10 q11 q12 q13 r0 r1 r2 r3 r4 r5 r6 r7 r8 r9 r10 r11 r12 r13 s0 s1 s2 s3 s4 s5 s6 s7 s8 s9 s10 s11 s12 s13 CK CE CS CX
      have HF5 : Hid (∀ W, Below W3.heap.size W3 W → Calls Tryd.prog 8 #[.agg #[.int .i64 x.k, .int .i64 x.p, .int .i64 x.d, .int .i64 x.t.n, .string x.t.b, .string x.t.s, .string x.t.i, .int .i64 x.t.q, .int .i64 x.t.p, .string x.n, .int .i64 x.a, .slice A5 lx.length c5, .int .i64 x.hi, .int .u64 x.lo]] W fun e w' => ∃ A' c', e = .returned (.agg #[.int .i64 x.k, .int .i64 x.p, .int .i64 x.d, .int .i64 x.t.n, .string x.t.b, .string x.t.s, .string x.t.i, .int .i64 x.t.q, .int .i64 x.t.p, .string x.n, .int .i64 x.a, .slice A' lx.length c', .int .i64 x.hi, .int .u64 x.lo]) ∧ RR w' A' lx ∧ lx.length ≤ c' ∧ Ty w' A' 57 ∧ Below W.heap.size W w') := fun W hW => of_any W x x rfl A5 lx.length c5 lx (HLP.out.2.2.2.1.below hW) rfl hlx lx rfl
      have HSX : Hid (∀ W A9 c9, Below W3.heap.size W3 W → RR W A9 lx → Calls Tryd.prog 22 #[.agg #[.int .i64 x.k, .int .i64 x.p, .int .i64 x.d, .int .i64 x.t.n, .string x.t.b, .string x.t.s, .string x.t.i, .int .i64 x.t.q, .int .i64 x.t.p, .string x.n, .int .i64 x.a, .slice A9 lx.length c9, .int .i64 x.hi, .int .u64 x.lo], .agg #[.int .i64 x.k, .int .i64 x.p, .int .i64 x.d, .int .i64 x.t.n, .string x.t.b, .string x.t.s, .string x.t.i, .int .i64 x.t.q, .int .i64 x.t.p, .string x.n, .int .i64 x.a, .slice A7 lx.length c7, .int .i64 x.hi, .int .u64 x.lo]] W fun e w' => e = .returned (.bool true) ∧ Below W.heap.size W w') := fun W A9 c9 hW hr => rsame_any W x x A9 A7 lx.length c9 lx.length c7 lx lx hr rfl (HLF.out.2.2.2.1.below hW) rfl hlx (show Hid (true = sameN x x lx lx) by show _ = _; unfold sameN; rw [sing_eqS]; unfold eqS eqT; simp)
      have LP := blk14 HLP.out.1
      have LF := blk14 HLF.out.1
      have HBQ := Lib.hid hbq
      show wpAny _ _ _ _ 6 _ _ _
      refine wpAny_of_held (S := fun w' => Below W3.heap.size W3 w') _ _ _ _ ?_
      refine held_stepG 16 33 (.agg #[.int .i64 x.k, .int .i64 x.p, .int .i64 x.d, .int .i64 x.t.n, .string x.t.b, .string x.t.s, .string x.t.i, .int .i64 x.t.q, .int .i64 x.t.p, .string x.n, .int .i64 x.a, .slice A5 lx.length c5, .int .i64 x.hi, .int .u64 x.lo]) rfl rfl (by kernel_rfl) (by kernel_rfl) (fun _ _ _ h => h) HBQ.out (fun wz hS => by
        have e0 := (hS.cell (World.block_lt_of_cell? _ _ LP.1.1)).trans LP.1.1
        have e1 := (hS.cell (World.block_lt_of_cell? _ _ LP.1.2.1)).trans LP.1.2.1
        have e2 := (hS.cell (World.block_lt_of_cell? _ _ LP.1.2.2.1)).trans LP.1.2.2.1
        have e3 := (hS.cell (World.block_lt_of_cell? _ _ LP.1.2.2.2.1)).trans LP.1.2.2.2.1
        have e4 := (hS.cell (World.block_lt_of_cell? _ _ LP.1.2.2.2.2.1)).trans LP.1.2.2.2.2.1
        have e5 := (hS.cell (World.block_lt_of_cell? _ _ LP.1.2.2.2.2.2.1)).trans LP.1.2.2.2.2.2.1
        have e6 := (hS.cell (World.block_lt_of_cell? _ _ LP.1.2.2.2.2.2.2)).trans LP.1.2.2.2.2.2.2
        have e7 := (hS.cell (World.block_lt_of_cell? _ _ LP.2.1)).trans LP.2.1
        have e8 := (hS.cell (World.block_lt_of_cell? _ _ LP.2.2.1)).trans LP.2.2.1
        have e9 := (hS.cell (World.block_lt_of_cell? _ _ LP.2.2.2.1)).trans LP.2.2.2.1
        have e10 := (hS.cell (World.block_lt_of_cell? _ _ LP.2.2.2.2.1)).trans LP.2.2.2.2.1
        have e11 := (hS.cell (World.block_lt_of_cell? _ _ LP.2.2.2.2.2.1)).trans LP.2.2.2.2.2.1
        have e12 := (hS.cell (World.block_lt_of_cell? _ _ LP.2.2.2.2.2.2.1)).trans LP.2.2.2.2.2.2.1
        have e13 := (hS.cell (World.block_lt_of_cell? _ _ LP.2.2.2.2.2.2.2)).trans LP.2.2.2.2.2.2.2
        go_simp) ?_
      simp only [Act.put, List.setIfInBounds_toArray, List.set_cons_succ, List.set_cons_zero]
      refine held_stepG 18 35 (.agg #[.int .i64 x.k, .int .i64 x.p, .int .i64 x.d, .int .i64 x.t.n, .string x.t.b, .string x.t.s, .string x.t.i, .int .i64 x.t.q, .int .i64 x.t.p, .string x.n, .int .i64 x.a, .slice A7 lx.length c7, .int .i64 x.hi, .int .u64 x.lo]) rfl rfl (by kernel_rfl) (by kernel_rfl) (fun _ _ _ h => h) HBQ.out (fun wz hS => by
        have e0 := (hS.cell (World.block_lt_of_cell? _ _ LF.1.1)).trans LF.1.1
        have e1 := (hS.cell (World.block_lt_of_cell? _ _ LF.1.2.1)).trans LF.1.2.1
        have e2 := (hS.cell (World.block_lt_of_cell? _ _ LF.1.2.2.1)).trans LF.1.2.2.1
        have e3 := (hS.cell (World.block_lt_of_cell? _ _ LF.1.2.2.2.1)).trans LF.1.2.2.2.1
        have e4 := (hS.cell (World.block_lt_of_cell? _ _ LF.1.2.2.2.2.1)).trans LF.1.2.2.2.2.1
        have e5 := (hS.cell (World.block_lt_of_cell? _ _ LF.1.2.2.2.2.2.1)).trans LF.1.2.2.2.2.2.1
        have e6 := (hS.cell (World.block_lt_of_cell? _ _ LF.1.2.2.2.2.2.2)).trans LF.1.2.2.2.2.2.2
        have e7 := (hS.cell (World.block_lt_of_cell? _ _ LF.2.1)).trans LF.2.1
        have e8 := (hS.cell (World.block_lt_of_cell? _ _ LF.2.2.1)).trans LF.2.2.1
        have e9 := (hS.cell (World.block_lt_of_cell? _ _ LF.2.2.2.1)).trans LF.2.2.2.1
        have e10 := (hS.cell (World.block_lt_of_cell? _ _ LF.2.2.2.2.1)).trans LF.2.2.2.2.1
        have e11 := (hS.cell (World.block_lt_of_cell? _ _ LF.2.2.2.2.2.1)).trans LF.2.2.2.2.2.1
        have e12 := (hS.cell (World.block_lt_of_cell? _ _ LF.2.2.2.2.2.2.1)).trans LF.2.2.2.2.2.2.1
        have e13 := (hS.cell (World.block_lt_of_cell? _ _ LF.2.2.2.2.2.2.2)).trans LF.2.2.2.2.2.2.2
        go_simp) ?_
      simp only [Act.put, List.setIfInBounds_toArray, List.set_cons_succ, List.set_cons_zero]
      clear LP LF
      refine wpAnyH_all (rs := [17]) (by kernel_rfl) (by simp) ?_
      intro i hi
      simp only [List.mem_cons, List.not_mem_nil, or_false] at hi
      subst hi
      refine wpOp_of_list rfl ?_
      go_wp2_with (go_at_call 8; refine (HF5.out _ HBQ.out).mono ?_; rintro e w1 ⟨A9, c9, rfl, hr, _, _, hb⟩; have HS1 := Lib.hid (Below.trans HBQ.out (Below.mono hb HBQ.out.size)); have HR9 := Lib.hid hr; clear hb hr)
      refine ⟨HS1.out, ?_⟩
      refine wpAnyH_all (rs := [19]) (by kernel_rfl) (by simp) ?_
      intro i hi
      simp only [List.mem_cons, List.not_mem_nil, or_false] at hi
      subst hi
      refine wpOp_of_list rfl ?_
      go_wp2_with (go_at_call 22; refine (HSX.out _ A9 c9 HS1.out HR9.out).mono ?_; rintro e w2 ⟨rfl, hb⟩; have HS2 := Lib.hid (Below.trans HS1.out (Below.mono hb HS1.out.size)); clear hb)
      refine ⟨HS2.out, ?_⟩
      refine held_two 20 rfl rfl (by kernel_rfl) ?_
      go_wp2
      refine ⟨HS2.out, ?_⟩
      go_wp2
      refine ⟨HS2.out, ?_⟩
      go_wp2
      go_ret
      exact ⟨rfl, HBW.out.trans (HS2.out.mono HBW.out.size)⟩
end Go.Proofs.YteahloddjekakaaDoor.Nt
