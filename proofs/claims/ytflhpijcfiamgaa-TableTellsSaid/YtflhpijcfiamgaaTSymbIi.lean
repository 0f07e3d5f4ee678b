/-
  The symmetric merge where the second part is one row: it goes to its place. Conditions: the parts are sorted.
-/
import Derived.Test.YtflhpijcfiamgaaTSymaIi
namespace Go.Proofs.Ytflhpijcfiamgaa.Tb.Ii
open Go.RowKit Go.Sort

theorem shift_down {dk : Array R} {A L B : List R} {y0 : R} {t : Nat} (h : dk.toList = A ++ (L.take (t + 1) ++ (y0 :: (L.drop (t + 1) ++ B)))) (ht : t < L.length) :
    ∃ y, dk[A.length + t + 1]! = y0 ∧ dk[A.length + t]! = y ∧ (swp dk (A.length + t + 1) (A.length + t)).toList = A ++ (L.take t ++ (y0 :: (L.drop t ++ B))) := by
  have hl : (A ++ L.take t).length = A.length + t := by rw [List.length_append, List.length_take]; omega
  have e : dk.toList = (A ++ L.take t) ++ L[t] :: ([] ++ y0 :: (L.drop (t + 1) ++ B)) := by
    rw [h, List.take_succ_eq_append_getElem ht]
    simp only [List.append_assoc, List.nil_append, List.cons_append]
  have hs := (swp_toList dk _ [] _ L[t] y0 e).2
  rw [hl, show A.length + t + 1 + ([] : List R).length = A.length + t + 1 from rfl] at hs
  refine ⟨L[t], get_bang _ _ _ ?_, get_bang _ _ _ ?_, ?_⟩
  · rw [e, ← hl, List.getElem?_append_right (by omega)]; simp
  · rw [e, ← hl]; simp
  · rw [hs, List.drop_eq_getElem_cons ht]; simp only [List.append_assoc, List.nil_append, List.cons_append]

set_option maxRecDepth 1000000 in
set_option maxHeartbeats 4000000 in
theorem sym_second (w0 w : World) (blk off cap N a m b : Nat) (d0 d : Array R) (A : List R) (L : List R) (y0 : R) (B : List R) (S : SWK enc 2 w0 blk off d w) (Rw : RowK enc 2 w0 blk off d0) (hs : d.size = d0.size) (hN : d.size = N) (hsz : N < 4611686018427387904)
    (hd : d.toList = A ++ (L ++ ([y0] ++ B))) (hL2 : 1 < L.length) (ha : a = A.length) (hm : m = a + L.length) (hb : b = m + 1) (hsL : srt L) :
    Calls Try.prog 91 #[.slice (some ⟨blk, off, none⟩) N cap, .int .i64 a, .int .i64 m, .int .i64 b, .func (.func 70) #[] #[]] w (SymP w0 blk off A L [y0] B) := by
  have hlen := size_of_list hd
  simp only [List.length_append, List.length_cons, List.length_nil] at hlen
  have hd2 : d.toList = (A ++ L) ++ ([y0] ++ B) := by rw [hd]; simp
  have lA : (A ++ L).length = m := by rw [List.length_append]; omega
  have sL : SIn d a m := by rw [hm, ha]; exact sin_of hd hsL
  have gy : d[m]! = y0 := by have := part_get hd2 0 y0 (by simp); rwa [lA] at this
  have S0 := Lib.hid S
  have HR := Lib.hid Rw
  have HD := Lib.hid hd
  have HSL := Lib.hid sL
  have HGY := Lib.hid gy
  have HSR := Lib.hid hsL
  have HS := Lib.hid (show d.size = d0.size ∧ N = d.size by omega)
  have HX := Lib.hid (show a = A.length ∧ m = a + L.length ∧ b = m + 1 ∧ b ≤ N ∧ N < 4611686018427387904 by omega)
  have e1 : ((m : Int) - (a : Int) == 1) = false := by simp; omega
  have e2 : IntKind.i64.wrap ((m : Int) - (a : Int)) = (m : Int) - (a : Int) := wrap_fits _ (by omega)
  have e3 : (b : Int) - (m : Int) = 1 := by omega
  have n1 : m < N := by omega
  have n2 : a ≤ m := by omega
  clear S Rw hd hd2 hs lA sL gy hlen hN ha hm hb hL2 hsL
  go_enter Try.func91, Try.ntmps91
  go_wp2
  clear e1 e2 e3
  go_loopg [14, 15] (m - a) (fun (gh : Nat) s14 s15 wx => ∃ i j : Nat, gh = j - i ∧ a ≤ i ∧ i ≤ j ∧ j ≤ m ∧ s14 = .int .i64 (i : Int) ∧ s15 = .int .i64 (j : Int) ∧ Hid (∀ c, a ≤ c → c < i → Ky.lt y0.1 d[c]!.1 = false) ∧ Hid (∀ c, j ≤ c → c < m → Ky.lt y0.1 d[c]!.1 = true) ∧ Hid (SWK enc 2 w0 blk off d wx))
  case atStart => exact ⟨a, m, rfl, Nat.le_refl _, n2, Nat.le_refl _, rfl, rfl, fun c _ _ => by omega, fun c _ _ => by omega, S0⟩
  case round =>
    clear S0
    obtain ⟨i, j, rfl, hi, hij, hj, rfl, rfl, HB1, HB2, S1⟩ := hrel
    by_cases hlt : i < j
    · obtain ⟨y, hy⟩ : ∃ y, d[(i + j) / 2]! = y := ⟨_, rfl⟩
      have hh1 : i ≤ (i + j) / 2 := by omega
      have hh2 : (i + j) / 2 < j := by omega
      have fr1 := row_facts S1.out HR.out HS.out.1 ((i + j) / 2) (by have := HS.out.2; omega) y hy
      have fr2 := row_facts S1.out HR.out HS.out.1 m (by have := HS.out.2; omega) y0 HGY.out
      have c1 : ∀ n os, (grow (wr.drewN n) os).cell? ⟨blk, off + (i + j) / 2 * 2, none⟩ = some (Value.int .i64 y.1) := fun n os => (fr1 n os).1
      have c2 : ∀ n os, (grow (wr.drewN n) os).cell? ⟨blk, off + (i + j) / 2 * 2 + 1, none⟩ = some (Value.int .i64 y.2) := fun n os => (fr1 n os).2
      have c3 : ∀ n os, (grow (wr.drewN n) os).cell? ⟨blk, off + m * 2, none⟩ = some (Value.int .i64 y0.1) := fun n os => (fr2 n os).1
      have c4 : ∀ n os, (grow (wr.drewN n) os).cell? ⟨blk, off + m * 2 + 1, none⟩ = some (Value.int .i64 y0.2) := fun n os => (fr2 n os).2
      have hcall := fun W => cmpc_any y0 y W
      have hneg := cmpK_neg y0.1 y.1
      obtain ⟨z, hz⟩ : ∃ z, z = cmpK y0.1 y.1 := ⟨_, rfl⟩
      rw [← hz] at hcall hneg
      have HC := Lib.hid hcall
      have HNG := Lib.hid hneg
      have HY := Lib.hid hy
      have mixed : Try.prog.follows .mixedOrders = true := by kernel_rfl
      have q1 : (m : Int) < (N : Int) := by omega
      have q2 : (0 : Int) ≤ (m : Int) := by omega
      have p1 : (0 : Int) ≤ ((i : Int) + (j : Int)) / 2 := by omega
      have p2 : ((i : Int) + (j : Int)) / 2 < (N : Int) := by omega
      have p3 : (((i : Int) + (j : Int)) / 2).toNat = (i + j) / 2 := by omega
      clear fr1 fr2 hcall hneg hz hy
      by_cases hx : z < 0
      · have HM1 : Hid (∀ c, (i + j) / 2 ≤ c → c < m → Ky.lt y0.1 d[c]!.1 = true) := fun c hc1 hc2 => by
          have h1 := HSL.out ((i + j) / 2) c (by omega) hc1 hc2
          rw [HY.out] at h1
          exact lt_of_lt_not (HNG.out.1 hx) h1
        have hx2 : ¬ 0 ≤ z := by omega
        go_wp2_with fail
        go_quiet_grown (first | (go_at_call 70; refine Calls.grown_of (HC.out _)))
        have S2 := Lib.hid (S1.out.grown nq osq)
        go_wp2
        go_roundg ((i + j) / 2 - i)
        case measure => omega
        case rel => exact ⟨i, (i + j) / 2, rfl, hi, hh1, by omega, rfl, by go_num, HB1, HM1, S2⟩
      · have HM1 : Hid (∀ c, a ≤ c → c < (i + j) / 2 + 1 → Ky.lt y0.1 d[c]!.1 = false) := fun c hc1 hc2 => by
          have h1 := HSL.out c ((i + j) / 2) hc1 (by omega) (by omega)
          rw [HY.out] at h1
          cases f : Ky.lt y0.1 d[c]!.1
          · rfl
          · exact absurd (HNG.out.2 (lt_of_lt_not f h1)) hx
        have hx2 : 0 ≤ z := by omega
        have hx3 : decide (z < 0) = false := by simp; omega
        go_wp2_with fail
        go_quiet_grown (first | (go_at_call 70; refine Calls.grown_of (HC.out _)))
        have S2 := Lib.hid (S1.out.grown nq osq)
        go_wp2
        go_roundg (j - ((i + j) / 2 + 1))
        case measure => omega
        case rel => exact ⟨(i + j) / 2 + 1, j, rfl, by omega, by omega, hj, by go_num, rfl, HM1, HB2, S2⟩
    · obtain rfl : i = j := by omega
      have t0 : decide ((i : Int) < (i : Int)) = false := by simp
      go_wp2
      have h0 : Hid (∃ dk : Array R, dk.toList = A ++ (L.take (m - a) ++ (y0 :: (L.drop (m - a) ++ B))) ∧ dk.size = N ∧ SWK enc 2 w0 blk off dk wr) := by
        refine ⟨d, ?_, HS.out.2.symm, S1.out⟩
        rw [HD.out, show m - a = L.length by have := HX.out; omega, List.take_length, List.drop_length]
        rfl
      go_loopg [17] (m - i) (fun (gh : Nat) s17 wx => ∃ k : Nat, gh = k - i ∧ i ≤ k ∧ k ≤ m ∧ s17 = .int .i64 (k : Int) ∧ Hid (∃ dk : Array R, dk.toList = A ++ (L.take (k - a) ++ (y0 :: (L.drop (k - a) ++ B))) ∧ dk.size = N ∧ SWK enc 2 w0 blk off dk wx))
      case atStart => exact ⟨m, rfl, hj, Nat.le_refl _, rfl, h0⟩
      case round =>
        clear h0 S1
        obtain ⟨k, rfl, hk1, hk2, rfl, hinv⟩ := hrel
        obtain ⟨dk, hdk, hdN, S1⟩ := hinv.out
        by_cases hkl : i < k
        · obtain ⟨q, rfl⟩ : ∃ q, k = q + 1 := ⟨k - 1, by omega⟩
          rw [show q + 1 - a = q - a + 1 by omega] at hdk
          obtain ⟨y, gx, gy, hsw⟩ := shift_down hdk (by have := HX.out; omega)
          have ek1 : A.length + (q - a) = q := by have := HX.out; omega
          rw [ek1] at gx gy hsw
          obtain ⟨⟨⟨c1, c2⟩, c3, c4⟩, ⟨⟨f1, f2⟩, f3, f4⟩, ⟨⟨d1, d2⟩, d3, d4⟩, ⟨⟨g1, g2⟩, g3, g4⟩, S3⟩ := swap_facts S1 HR.out (by rw [hdN, HS.out.2]; exact HS.out.1) (q + 1) q (by have := HX.out; omega) (by have := HX.out; omega) y0 y gx gy
          have S4 := Lib.hid S3
          have HSW := Lib.hid hsw
          have HDN := Lib.hid hdN
          have u1 : (i : Int) < (q : Int) + 1 := by omega
          have u2 : (q : Int) < (N : Int) := by have := HX.out; omega
          have u3 : (0 : Int) ≤ (q : Int) := by omega
          have pa : (0 : Int) ≤ (q : Int) + 1 := by omega
          have ba : (q : Int) + 1 < (N : Int) := by have := HX.out; omega
          have ra : IntKind.i64.wrap (q : Int) = (q : Int) := wrap_fits _ (by have := HX.out; omega)
          have ea : ((q : Int) + 1).toNat = q + 1 := by omega
          have HKK := Lib.hid (show q - i < q + 1 - i ∧ i ≤ q ∧ q ≤ m by omega)
          clear hsw gx gy hdk hinv S1 S3 hdN ek1 t0 HB1 HB2 hk1 hk2 hkl
          go_wp2_with fail
          go_region
          go_wp2
          go_roundg (q - i)
          case measure => exact HKK.out.1
          case rel => exact ⟨q, rfl, HKK.out.2.1, HKK.out.2.2, by go_num, ⟨_, HSW.out, by rw [size_swp]; exact HDN.out, S4.out⟩⟩
        · have u1 : ¬ (i : Int) < (k : Int) := by omega
          have HF : Hid (∃ (d' : Array R) (C : List R), d'.toList = A ++ (C ++ B) ∧ Mrg L [y0] C ∧ SWK enc 2 w0 blk off d' wr) := by
            refine ⟨dk, L.take (k - a) ++ y0 :: L.drop (k - a), by rw [hdk]; simp, ?_, S1⟩
            have hx := HX.out
            have h1 := HD.out
            have hmg := Mrg.one_right (y := y0) (L1 := L.take (k - a)) (L2 := L.drop (k - a)) (by rw [List.take_append_drop]; exact HSR.out) (fun r hr => by
              obtain ⟨c, c1, c2, c3, rfl⟩ := mem_take_get h1 hr
              exact HB1.out c (by omega) (by omega)) (fun r hr => by
              obtain ⟨c, c1, c2, rfl⟩ := mem_drop_get h1 hr
              exact HB2.out c (by omega) (by omega))
            rwa [List.take_append_drop] at hmg
          clear hinv hdk hdN S1 hk1 hk2 hkl
          go_wp2
          try simp only [Exit.inBlock, Exit.then]
          refine bodyPost_ret (results_none rfl _ _ _) rfl ?_
          exact ⟨rfl, HF.out⟩
end Go.Proofs.Ytflhpijcfiamgaa.Tb.Ii
