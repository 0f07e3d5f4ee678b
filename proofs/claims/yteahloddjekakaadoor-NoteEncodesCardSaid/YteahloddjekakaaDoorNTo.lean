/-
  The contract of the law's To. Conditions: none.
-/
import Derived.Test.YteahloddjekakaaDoorNTo0
namespace Go.Proofs.YteahloddjekakaaDoor.Nt
open Go.RowKit Td

set_option maxRecDepth 100000 in
set_option maxHeartbeats 16000000 in
theorem to_any (w : World) (x y : Nt) (hy : Hid (y = cutN x)) (A : Option Addr) (n c : Nat) (l : List Rw) (hl : Hid (RR w A l)) (hn : Hid (n = l.length)) (ml : List Rw) (hml : Hid (ml = cutR l)) :
    Calls Tryd.prog 7 #[.agg #[.int .i64 x.k, .int .i64 x.p, .int .i64 x.d, .int .i64 x.t.n, .string x.t.b, .string x.t.s, .string x.t.i, .int .i64 x.t.q, .int .i64 x.t.p, .string x.n, .int .i64 x.a, .slice A n c, .int .i64 x.hi, .int .u64 x.lo]] w fun e w' => ∃ A' c', e = .returned (.agg #[.int .i64 y.k, .int .i64 y.p, .int .i64 y.d, .int .i64 y.t.n, .string y.t.b, .string y.t.s, .string y.t.i, .int .i64 y.t.q, .int .i64 y.t.p, .string y.n, .int .i64 y.a, .slice A' ml.length c', .int .i64 y.hi, .int .u64 y.lo]) ∧ RR w' A' ml ∧ ml.length ≤ c' ∧ Ty w' A' 58 ∧ Below w.heap.size w w' := by
  obtain ⟨n1, l1, m1, m1b, s1⟩ := cut40_slice x.n
  obtain ⟨t1, ht1⟩ : ∃ t, t = cut40 x.n := ⟨_, rfl⟩
  rw [← ht1] at s1
  have HT1 := Lib.hid ht1
  have E1 := two_new2 w (.cells #[.int .i64 x.k, .int .i64 x.p, .int .i64 x.d, .int .i64 x.t.n, .string x.t.b, .string x.t.s, .string x.t.i, .int .i64 x.t.q, .int .i64 x.t.p, .string x.n, .int .i64 x.a, .slice A n c, .int .i64 x.hi, .int .u64 x.lo] 27) (.cells #[.int .i64 0, .int .i64 0, .int .i64 0, .int .i64 0, .string { data := #[] }, .string { data := #[] }, .string { data := #[] }, .int .i64 0, .int .i64 0, .string { data := #[] }, .int .i64 0, .slice none 0 0, .int .i64 0, .int .u64 0] 33)
  clear ht1
  go_enter Tryd.func7, Tryd.ntmps7
  go_upto_region 1 with fail
  generalize (w.alloc _).alloc _ = W0 at E1 ⊢
  obtain ⟨⟨x0, x1, x2, x3, x4, x5, x6⟩, x7, x8, x9, x10, x11, x12, x13⟩ := blk14 E1.1
  have S0 : W0.cell? ⟨w.heap.size, 0, none⟩ = some (.int .i64 x.k) ∧ W0.cell? ⟨w.heap.size, 1, none⟩ = some (.int .i64 x.p) ∧ W0.cell? ⟨w.heap.size, 2, none⟩ = some (.int .i64 x.d) ∧ W0.cell? ⟨w.heap.size, 3, none⟩ = some (.int .i64 x.t.n) ∧ W0.cell? ⟨w.heap.size, 4, none⟩ = some (.string x.t.b) ∧ W0.cell? ⟨w.heap.size, 5, none⟩ = some (.string x.t.s) ∧ W0.cell? ⟨w.heap.size, 6, none⟩ = some (.string x.t.i) ∧ W0.cell? ⟨w.heap.size, 7, none⟩ = some (.int .i64 x.t.q) ∧ W0.cell? ⟨w.heap.size, 8, none⟩ = some (.int .i64 x.t.p) ∧ W0.cell? ⟨w.heap.size, 9, none⟩ = some (.string x.n) ∧ W0.cell? ⟨w.heap.size, 10, none⟩ = some (.int .i64 x.a) ∧ W0.cell? ⟨w.heap.size, 12, none⟩ = some (.int .i64 x.hi) ∧ W0.cell? ⟨w.heap.size, 13, none⟩ = some (.int .u64 x.lo) := ⟨x0, x1, x2, x3, x4, x5, x6, x7, x8, x9, x10, x12, x13⟩
  have HE1 := Lib.hid E1
  have HT := Lib.hid fun W => Td.to_exact W x.t (cutT x.t) rfl
  clear E1 x0 x1 x2 x3 x4 x5 x6 x7 x8 x9 x10 x11 x12 x13
  go_cut [3] from 5 (fun s3 wx => ∃ b, s3 = .pointer (some ⟨b, 0, none⟩) ∧ Hid (ToI w wx b x y A n c ml 0 (.slice none 0 0)))
  case first =>
    go_region_held3 (fun w' => w'.cell? ⟨w.heap.size, 0, none⟩ = some (.int .i64 x.k) ∧ w'.cell? ⟨w.heap.size, 1, none⟩ = some (.int .i64 x.p) ∧ w'.cell? ⟨w.heap.size, 2, none⟩ = some (.int .i64 x.d) ∧ w'.cell? ⟨w.heap.size, 3, none⟩ = some (.int .i64 x.t.n) ∧ w'.cell? ⟨w.heap.size, 4, none⟩ = some (.string x.t.b) ∧ w'.cell? ⟨w.heap.size, 5, none⟩ = some (.string x.t.s) ∧ w'.cell? ⟨w.heap.size, 6, none⟩ = some (.string x.t.i) ∧ w'.cell? ⟨w.heap.size, 7, none⟩ = some (.int .i64 x.t.q) ∧ w'.cell? ⟨w.heap.size, 8, none⟩ = some (.int .i64 x.t.p) ∧ w'.cell? ⟨w.heap.size, 9, none⟩ = some (.string x.n) ∧ w'.cell? ⟨w.heap.size, 10, none⟩ = some (.int .i64 x.a) ∧ w'.cell? ⟨w.heap.size, 12, none⟩ = some (.int .i64 x.hi) ∧ w'.cell? ⟨w.heap.size, 13, none⟩ = some (.int .u64 x.lo)) (repeat (first | (with_reducible refine t13_drew ?_) | (with_reducible refine t13_alloc ?_ _) | (with_reducible exact S0)))
      (first
        | (go_at_call 23; (with_reducible refine (HT.out _).mono ?_); rintro e w1 ⟨rfl, rfl⟩))
    all_goals (go_wp2; go_meet)
    all_goals (case rel =>
      refine ⟨_, rfl, ?_⟩
      show ToI _ _ _ _ _ _ _ _ _ _ _
      refine ToI.of HE1.out.2.2 HE1.out.1 HE1.out.2.1 ?_ ?_ ?_
      · repeat (first | exact Below.refl _ _ | (refine Below.drew ?_) | (refine below_step ?_ _))
      · omega
      · obtain rfl := hy.out
        obtain rfl := HT1.out
        repeat (first | (with_reducible refine heap_drew ?_) | (refine heap_at ?_; simp; done) | (refine block_old ?_ _)))
  case rest =>
    obtain ⟨b, rfl, hk⟩ := hcut
    have hlen : ml.length = min 40 n := by rw [hml.out, cutR_len, ← hn.out]
    obtain ⟨i0, hi0, hz0, hz1, hz2⟩ := info_parts infoP
    clear S0 HT s1 m1 m1b l1
    obtain ⟨W1, hW1⟩ : ∃ W1, W1 = wc := ⟨_, rfl⟩
    rw [← hW1] at hk ⊢
    clear hW1
    go_wp2
    go_loopg [4] ml.length (fun (gh : Nat) si wx => ∃ (i : Nat) (v : Value), gh = ml.length - i ∧ i ≤ ml.length ∧ si = .int .i64 (i : Int) ∧ Hid (ToI w wx b x y A n c ml i v))
    case atStart => exact ⟨0, _, rfl, Nat.zero_le _, rfl, hk.out⟩
    case round =>
      obtain ⟨i, v, rfl, hi, rfl, hinv⟩ := hrel
      have hb := hinv.out.1
      have hrow := hinv.out.2.1
      have hx := hinv.out.2.2.1
      have hbel := hinv.out.2.2.2.2.1
      have hB := hinv.out.2.2.2.2.2
      have hsz := hbel.size
      have X11 := (blk14 hx).2.2.2.2.2.1
      have B11 := (blk14 hb).2.2.2.2.2.1
      have hbs := (Array.getElem?_eq_some_iff.1 hb).1
      by_cases hlt : i < ml.length
      · have t1 : (i : Int) < (n : Int) := by omega
        have t2 : (0 : Int) ≤ (i : Int) := by omega
        have t3 : (i : Int) < 40 := by omega
        obtain ⟨m, hm⟩ : ∃ m, l[i]? = some m := ⟨_, List.getElem?_eq_getElem (by rw [← hn.out]; omega)⟩
        have hmm : ml[i]? = some (cut40 m.1, m.2) := by rw [hml.out]; exact cutR_get hm (by omega)
        obtain ⟨g, o, rfl, hg, cx, dx⟩ := (hl.out.below hbel).at hm
        have hgw : g < w.heap.size := by
          rcases hl.out with h0 | ⟨g', o', e, hg', _⟩
          · rw [h0] at hm; simp at hm
          · cases e; exact hg'
        obtain ⟨n2, l2, m2, m2b, s2⟩ := cut40_slice m.1
        obtain ⟨tm, htm⟩ : ∃ t, t = cut40 m.1 := ⟨_, rfl⟩
        rw [← htm] at s2 hmm
        have HMM := Lib.hid hmm
        have HINV := Lib.hid hinv.out
        have hS0 : (wr.drew.cell? ⟨w.heap.size, 11, none⟩ = some (.slice (some ⟨g, o, none⟩) n c) ∧ wr.drew.cell? ⟨b, 11, none⟩ = some v ∧ wr.drew.cell? ⟨g, o + i * 2, none⟩ = some (.string m.1) ∧ wr.drew.cell? ⟨g, o + i * 2 + 1, none⟩ = some (.int .i64 m.2)) := ⟨X11, B11, cx, dx⟩
        have hrq := hrow
        have a1 : some g ≠ v.ownBlock := own_ne hrq (by omega)
        have a2 : some w.heap.size ≠ v.ownBlock := own_ne hrq (by omega)
        have a3 : some b ≠ v.ownBlock := own_ne hrq (by omega)
        have HRQ := Lib.hid hrq
        have HBO : Hid (((wr.alloc (.cells #[.string tm, .int .i64 m.2] 58)).drew).heap[b]? = some (.cells #[.int .i64 y.k, .int .i64 y.p, .int .i64 y.d, .int .i64 y.t.n, .string y.t.b, .string y.t.s, .string y.t.i, .int .i64 y.t.q, .int .i64 y.t.p, .string y.n, .int .i64 y.a, v, .int .i64 y.hi, .int .u64 y.lo] 33 (0, 0))) := block_old hb (.cells #[.string tm, .int .i64 m.2] 58)
        have lw : w.heap.size < wr.heap.size := by omega
        have lg : g < wr.heap.size := by omega
        clear hmm hm htm hinv hb hx hbel hrow hsz hrq
        go_upto_region 5 with fail
        clear X11 B11 cx dx
        refine wp_region_two 26 (by kernel_rfl) (by kernel_rfl) ?_
        simp only [List.take_succ_cons, List.take_zero, List.drop_succ_cons, List.drop_zero]
        refine wpAny_of_held (S := fun w' => w'.cell? ⟨w.heap.size, 11, none⟩ = some (.slice (some ⟨g, o, none⟩) n c) ∧ w'.cell? ⟨b, 11, none⟩ = some v ∧ w'.cell? ⟨g, o + i * 2, none⟩ = some (.string m.1) ∧ w'.cell? ⟨g, o + i * 2 + 1, none⟩ = some (.int .i64 m.2)) _ _ _ _ ?_
        refine held_step 0 40 (.pointer (some ⟨b, 11, none⟩)) rfl rfl rfl (by kernel_rfl) (fun _ _ _ h => h) hS0 (fun w1 hS => by obtain ⟨s1, s2, s3, s4⟩ := hS; go_simp) ?_
        simp only [Act.put, List.setIfInBounds_toArray, List.set_cons_succ, List.set_cons_zero]
        refine held_step 1 41 v rfl rfl rfl (by kernel_rfl) (fun _ _ _ h => h) hS0 (fun w1 hS => by obtain ⟨s1, s2, s3, s4⟩ := hS; go_simp) ?_
        simp only [Act.put, List.setIfInBounds_toArray, List.set_cons_succ, List.set_cons_zero]
        refine held_step 2 42 (.pointer (some ⟨w.heap.size, 11, none⟩)) rfl rfl rfl (by kernel_rfl) (fun _ _ _ h => h) hS0 (fun w1 hS => by obtain ⟨s1, s2, s3, s4⟩ := hS; go_simp) ?_
        simp only [Act.put, List.setIfInBounds_toArray, List.set_cons_succ, List.set_cons_zero]
        refine held_step 3 43 (.slice (some ⟨g, o, none⟩) n c) rfl rfl rfl (by kernel_rfl) (fun _ _ _ h => h) hS0 (fun w1 hS => by obtain ⟨s1, s2, s3, s4⟩ := hS; go_simp) ?_
        simp only [Act.put, List.setIfInBounds_toArray, List.set_cons_succ, List.set_cons_zero]
        refine held_step 4 44 (.int .i64 (i : Int)) rfl rfl rfl (by kernel_rfl) (fun _ _ _ h => h) hS0 (fun w1 hS => by obtain ⟨s1, s2, s3, s4⟩ := hS; go_simp) ?_
        simp only [Act.put, List.setIfInBounds_toArray, List.set_cons_succ, List.set_cons_zero]
        refine held_step 5 45 (.pointer (some ⟨g, o + i * 2, none⟩)) rfl rfl rfl (by kernel_rfl) (fun _ _ _ h => h) hS0 (fun w1 hS => by obtain ⟨s1, s2, s3, s4⟩ := hS; go_simp) ?_
        simp only [Act.put, List.setIfInBounds_toArray, List.set_cons_succ, List.set_cons_zero]
        refine held_step 6 46 (.pointer (some ⟨g, o + i * 2, none⟩)) rfl rfl rfl (by kernel_rfl) (fun _ _ _ h => h) hS0 (fun w1 hS => by obtain ⟨s1, s2, s3, s4⟩ := hS; go_simp) ?_
        simp only [Act.put, List.setIfInBounds_toArray, List.set_cons_succ, List.set_cons_zero]
        refine held_step 7 47 (.string m.1) rfl rfl rfl (by kernel_rfl) (fun _ _ _ h => h) hS0 (fun w1 hS => by obtain ⟨s1, s2, s3, s4⟩ := hS; go_simp) ?_
        simp only [Act.put, List.setIfInBounds_toArray, List.set_cons_succ, List.set_cons_zero]
        refine held_step 8 48 (.pointer (some ⟨w.heap.size, 11, none⟩)) rfl rfl rfl (by kernel_rfl) (fun _ _ _ h => h) hS0 (fun w1 hS => by obtain ⟨s1, s2, s3, s4⟩ := hS; go_simp) ?_
        simp only [Act.put, List.setIfInBounds_toArray, List.set_cons_succ, List.set_cons_zero]
        refine held_step 9 49 (.slice (some ⟨g, o, none⟩) n c) rfl rfl rfl (by kernel_rfl) (fun _ _ _ h => h) hS0 (fun w1 hS => by obtain ⟨s1, s2, s3, s4⟩ := hS; go_simp) ?_
        simp only [Act.put, List.setIfInBounds_toArray, List.set_cons_succ, List.set_cons_zero]
        refine held_step 10 50 (.int .i64 (i : Int)) rfl rfl rfl (by kernel_rfl) (fun _ _ _ h => h) hS0 (fun w1 hS => by obtain ⟨s1, s2, s3, s4⟩ := hS; go_simp) ?_
        simp only [Act.put, List.setIfInBounds_toArray, List.set_cons_succ, List.set_cons_zero]
        refine held_step 11 51 (.pointer (some ⟨g, o + i * 2, none⟩)) rfl rfl rfl (by kernel_rfl) (fun _ _ _ h => h) hS0 (fun w1 hS => by obtain ⟨s1, s2, s3, s4⟩ := hS; go_simp) ?_
        simp only [Act.put, List.setIfInBounds_toArray, List.set_cons_succ, List.set_cons_zero]
        refine held_step 12 52 (.pointer (some ⟨g, o + i * 2, none⟩)) rfl rfl rfl (by kernel_rfl) (fun _ _ _ h => h) hS0 (fun w1 hS => by obtain ⟨s1, s2, s3, s4⟩ := hS; go_simp) ?_
        simp only [Act.put, List.setIfInBounds_toArray, List.set_cons_succ, List.set_cons_zero]
        refine held_step 13 53 (.string m.1) rfl rfl rfl (by kernel_rfl) (fun _ _ _ h => h) hS0 (fun w1 hS => by obtain ⟨s1, s2, s3, s4⟩ := hS; go_simp) ?_
        simp only [Act.put, List.setIfInBounds_toArray, List.set_cons_succ, List.set_cons_zero]
        refine held_step 14 54 (.int .i64 (m.1.size : Int)) rfl rfl rfl (by kernel_rfl) (fun _ _ _ h => h) hS0 (fun w1 hS => by obtain ⟨s1, s2, s3, s4⟩ := hS; go_simp) ?_
        simp only [Act.put, List.setIfInBounds_toArray, List.set_cons_succ, List.set_cons_zero]
        refine held_step 15 55 (.int .i64 (n2 : Int)) rfl rfl rfl (by kernel_rfl) (fun _ _ _ h => h) hS0 (fun w1 hS => by obtain ⟨s1, s2, s3, s4⟩ := hS; go_simp) ?_
        simp only [Act.put, List.setIfInBounds_toArray, List.set_cons_succ, List.set_cons_zero]
        refine held_step 16 56 (.string tm) rfl rfl rfl (by kernel_rfl) (fun _ _ _ h => h) hS0 (fun w1 hS => by obtain ⟨s1, s2, s3, s4⟩ := hS; go_simp) ?_
        simp only [Act.put, List.setIfInBounds_toArray, List.set_cons_succ, List.set_cons_zero]
        refine held_step 17 57 (.pointer (some ⟨w.heap.size, 11, none⟩)) rfl rfl rfl (by kernel_rfl) (fun _ _ _ h => h) hS0 (fun w1 hS => by obtain ⟨s1, s2, s3, s4⟩ := hS; go_simp) ?_
        simp only [Act.put, List.setIfInBounds_toArray, List.set_cons_succ, List.set_cons_zero]
        refine held_step 18 58 (.slice (some ⟨g, o, none⟩) n c) rfl rfl rfl (by kernel_rfl) (fun _ _ _ h => h) hS0 (fun w1 hS => by obtain ⟨s1, s2, s3, s4⟩ := hS; go_simp) ?_
        simp only [Act.put, List.setIfInBounds_toArray, List.set_cons_succ, List.set_cons_zero]
        refine held_step 19 59 (.int .i64 (i : Int)) rfl rfl rfl (by kernel_rfl) (fun _ _ _ h => h) hS0 (fun w1 hS => by obtain ⟨s1, s2, s3, s4⟩ := hS; go_simp) ?_
        simp only [Act.put, List.setIfInBounds_toArray, List.set_cons_succ, List.set_cons_zero]
        refine held_step 20 60 (.pointer (some ⟨g, o + i * 2, none⟩)) rfl rfl rfl (by kernel_rfl) (fun _ _ _ h => h) hS0 (fun w1 hS => by obtain ⟨s1, s2, s3, s4⟩ := hS; go_simp) ?_
        simp only [Act.put, List.setIfInBounds_toArray, List.set_cons_succ, List.set_cons_zero]
        refine held_step 21 61 (.pointer (some ⟨g, o + i * 2 + 1, none⟩)) rfl rfl rfl (by kernel_rfl) (fun _ _ _ h => h) hS0 (fun w1 hS => by obtain ⟨s1, s2, s3, s4⟩ := hS; go_simp) ?_
        simp only [Act.put, List.setIfInBounds_toArray, List.set_cons_succ, List.set_cons_zero]
        refine held_step 22 62 (.int .i64 m.2) rfl rfl rfl (by kernel_rfl) (fun _ _ _ h => h) hS0 (fun w1 hS => by obtain ⟨s1, s2, s3, s4⟩ := hS; go_simp) ?_
        simp only [Act.put, List.setIfInBounds_toArray, List.set_cons_succ, List.set_cons_zero]
        refine held_step 23 63 (.agg #[.string tm, .int .i64 m.2]) rfl rfl rfl (by kernel_rfl) (fun _ _ _ h => h) hS0 (fun w1 hS => by obtain ⟨s1, s2, s3, s4⟩ := hS; go_simp) ?_
        simp only [Act.put, List.setIfInBounds_toArray, List.set_cons_succ, List.set_cons_zero]
        refine held_two 24 rfl rfl (by kernel_rfl) ?_
        go_wp2
        refine ⟨⟨Lib.cell?_alloc_some _ hS0.1, Lib.cell?_alloc_some _ hS0.2.1, Lib.cell?_alloc_some _ hS0.2.2.1, Lib.cell?_alloc_some _ hS0.2.2.2⟩, ?_⟩
        refine wpList_append_lies _ rfl _ _ 29 rfl (b + 1) 58 i0 _ 2 24 Tryd.underlying29 hi0 hz0 hz1 hz2 rfl (by decide) _ _ _ rfl ((HRQ.out.alloc _).drew) ⟨wr.heap.size, 0, none⟩ 1 1 [.string tm, .int .i64 m.2] rfl rfl (World.news_of_block (cs := #[.string tm, .int .i64 m.2]) (t := 58) (fr := (0, 0)) (heap_alloc_new _ _)) (by simp [Value.oneCell']) (by decide) (by unfold maxLen; omega) (by omega) (by simp; omega) _ rfl ?_
        intro gg cp w1 hown1 hgrow hat hlt1
        have g1 := block_grown HBO.out hgrow a3
        have d1 := (blk14 g1).2.2.2.2.2.1
        have e1 := fro14 g1 11
        have FIN := Lib.hid (toI_step HINV.out HMM.out hown1 hgrow)
        have k1 : w1.cell? ⟨w.heap.size, 11, none⟩ = some (.slice (some ⟨g, o, none⟩) n c) := by rw [hgrow.cell_far _ (by simp; omega) a2]; exact Lib.cell?_alloc_some _ hS0.1
        have k3 : w1.cell? ⟨g, o + i * 2, none⟩ = some (.string m.1) := by rw [hgrow.cell_far _ (by simp; omega) a1]; exact Lib.cell?_alloc_some _ hS0.2.2.1
        have k4 : w1.cell? ⟨g, o + i * 2 + 1, none⟩ = some (.int .i64 m.2) := by rw [hgrow.cell_far _ (by simp; omega) a1]; exact Lib.cell?_alloc_some _ hS0.2.2.2
        clear hown1 hgrow hat hlt1 g1
        simp only [Act.put, List.setIfInBounds_toArray]
        refine ⟨⟨k1, d1, k3, k4⟩, ?_⟩
        show wpList _ _ _ _ _ _
        go_wp2
        go_roundg (ml.length - (i + 1))
        case measure => omega
        case rel => exact ⟨i + 1, _, rfl, hlt, by go_num, FIN.out⟩
      · have hil : i = ml.length := by omega
        subst hil
        obtain ⟨z0, z1, z2, z3, z4, z5, z6, z7, z8, z9, z10, z11, z12, z13, hz⟩ := hinv.out.2.2.2.1
        rw [List.take_of_length_le (Nat.le_refl _)] at hrow
        obtain ⟨A', cap, rfl, hrr, hcap⟩ := RR.of_own hrow
        obtain ⟨⟨y0, y1, y2, y3, y4, y5, y6⟩, y7, y8, y9, y10, y11, y12, y13⟩ := blk14 hb
        obtain ⟨⟨q0, q1, q2, q3, q4, q5, q6⟩, q7, q8, q9, q10, q11, q12, q13⟩ := blk14 hz
        have fz := fro14 hz
        have HRR := Lib.hid hrr
        have HBL := Lib.hid hbel
        have fin : ∀ W, W = ((((((((((((((wr).setCell ⟨w.heap.size + 1, 0, none⟩ (.int .i64 y.k)).setCell ⟨w.heap.size + 1, 1, none⟩ (.int .i64 y.p)).setCell ⟨w.heap.size + 1, 2, none⟩ (.int .i64 y.d)).setCell ⟨w.heap.size + 1, 3, none⟩ (.int .i64 y.t.n)).setCell ⟨w.heap.size + 1, 4, none⟩ (.string y.t.b)).setCell ⟨w.heap.size + 1, 5, none⟩ (.string y.t.s)).setCell ⟨w.heap.size + 1, 6, none⟩ (.string y.t.i)).setCell ⟨w.heap.size + 1, 7, none⟩ (.int .i64 y.t.q)).setCell ⟨w.heap.size + 1, 8, none⟩ (.int .i64 y.t.p)).setCell ⟨w.heap.size + 1, 9, none⟩ (.string y.n)).setCell ⟨w.heap.size + 1, 10, none⟩ (.int .i64 y.a)).setCell ⟨w.heap.size + 1, 11, none⟩ (.slice A' ml.length cap)).setCell ⟨w.heap.size + 1, 12, none⟩ (.int .i64 y.hi)).setCell ⟨w.heap.size + 1, 13, none⟩ (.int .u64 y.lo) → (Below wr.heap.size wr W ∨ True) → W.heap[w.heap.size + 1]? = some (.cells #[.int .i64 y.k, .int .i64 y.p, .int .i64 y.d, .int .i64 y.t.n, .string y.t.b, .string y.t.s, .string y.t.i, .int .i64 y.t.q, .int .i64 y.t.p, .string y.n, .int .i64 y.a, .slice A' ml.length cap, .int .i64 y.hi, .int .u64 y.lo] 33 (0, 0)) ∧ Below w.heap.size w W ∧ RR W A' ml ∧ Ty W A' 58 := by
          rintro W rfl _
          have hbB := st14_below hbel (Nat.le_succ _) (b := w.heap.size + 1) (.int .i64 y.k) (.int .i64 y.p) (.int .i64 y.d) (.int .i64 y.t.n) (.string y.t.b) (.string y.t.s) (.string y.t.i) (.int .i64 y.t.q) (.int .i64 y.t.p) (.string y.n) (.int .i64 y.a) (.slice A' ml.length cap) (.int .i64 y.hi) (.int .u64 y.lo)
          exact ⟨st14_blk hz (.int .i64 y.k) (.int .i64 y.p) (.int .i64 y.d) (.int .i64 y.t.n) (.string y.t.b) (.string y.t.s) (.string y.t.i) (.int .i64 y.t.q) (.int .i64 y.t.p) (.string y.n) (.int .i64 y.a) (.slice A' ml.length cap) (.int .i64 y.hi) (.int .u64 y.lo), hbB, toI_rows hrow hrr hz (by omega) (.int .i64 y.k) (.int .i64 y.p) (.int .i64 y.d) (.int .i64 y.t.n) (.string y.t.b) (.string y.t.s) (.string y.t.i) (.int .i64 y.t.q) (.int .i64 y.t.p) (.string y.n) (.int .i64 y.a) (.slice A' ml.length cap) (.int .i64 y.hi) (.int .u64 y.lo), toI_ty hrow hz (by omega) (.int .i64 y.k) (.int .i64 y.p) (.int .i64 y.d) (.int .i64 y.t.n) (.string y.t.b) (.string y.t.s) (.string y.t.i) (.int .i64 y.t.q) (.int .i64 y.t.p) (.string y.n) (.int .i64 y.a) (.slice A' ml.length cap) (.int .i64 y.hi) (.int .u64 y.lo)⟩
        have FIN := Lib.hid fin
        clear hinv hb hx hbel hrow hz hrr fin
        by_cases h40 : n ≤ 40
        · have t1 : ¬ (ml.length : Int) < (n : Int) := by omega
          clear hlen h40
          go_wp2
          obtain ⟨hf1, hf2, hf3, hf4⟩ := FIN.out _ rfl (.inr trivial)
          obtain ⟨⟨r0, r1, r2, r3, r4, r5, r6⟩, r7, r8, r9, r10, r11, r12, r13⟩ := blk14 hf1
          refine bodyPost_ret (v := .agg #[.int .i64 y.k, .int .i64 y.p, .int .i64 y.d, .int .i64 y.t.n, .string y.t.b, .string y.t.s, .string y.t.i, .int .i64 y.t.q, .int .i64 y.t.p, .string y.n, .int .i64 y.a, .slice A' ml.length cap, .int .i64 y.hi, .int .u64 y.lo]) (by simp [results, Tryd.results7, go_sem, r0, r1, r2, r3, r4, r5, r6, r7, r8, r9, r10, r11, r12, r13]) rfl ⟨A', cap, rfl, hf3, hcap, hf4, hf2⟩
        · have t1 : (ml.length : Int) < (n : Int) := by omega
          have t3 : ¬ (ml.length : Int) < 40 := by omega
          clear hlen h40
          go_wp2
          obtain ⟨hf1, hf2, hf3, hf4⟩ := FIN.out _ rfl (.inr trivial)
          obtain ⟨⟨r0, r1, r2, r3, r4, r5, r6⟩, r7, r8, r9, r10, r11, r12, r13⟩ := blk14 hf1
          refine bodyPost_ret (v := .agg #[.int .i64 y.k, .int .i64 y.p, .int .i64 y.d, .int .i64 y.t.n, .string y.t.b, .string y.t.s, .string y.t.i, .int .i64 y.t.q, .int .i64 y.t.p, .string y.n, .int .i64 y.a, .slice A' ml.length cap, .int .i64 y.hi, .int .u64 y.lo]) (by simp [results, Tryd.results7, go_sem, r0, r1, r2, r3, r4, r5, r6, r7, r8, r9, r10, r11, r12, r13]) rfl ⟨A', cap, rfl, hf3, hcap, hf4, hf2⟩
end Go.Proofs.YteahloddjekakaaDoor.Nt
