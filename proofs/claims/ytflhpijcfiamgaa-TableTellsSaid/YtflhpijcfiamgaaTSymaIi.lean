/-
  The symmetric merge where the first part is one row: it goes to its place. Conditions: the parts are sorted.
-/
import Derived.Test.YtflhpijcfiamgaaTRouIi
import Derived.Test.YtflhpijcfiamgaaTSymm
import Derived.Shelf.SlSortCmp.QuietGrown
namespace Go.Proofs.Ytflhpijcfiamgaa.Tb.Ii
open Go.RowKit Go.Sort

/-- What the symmetric merge leaves. -/
def SymP (w0 : World) (blk off : Nat) (A L M B : List R) (e : Ending) (w' : World) : Prop :=
  e = .returned (.tuple #[]) ∧ ∃ (d' : Array R) (C : List R), d'.toList = A ++ (C ++ B) ∧ Mrg L M C ∧ SWK enc 2 w0 blk off d' w'

theorem swap_facts {w0 wr : World} {blk off : Nat} {d0 dj : Array R} (S1 : SWK enc 2 w0 blk off dj wr) (Rw : RowK enc 2 w0 blk off d0) (hs : dj.size = d0.size) (p q : Nat) (hp : p < dj.size) (hq : q < dj.size) (x y : R) (hx : dj[p]! = x) (hy : dj[q]! = y) :
    ((wr.drew.cell? ⟨blk, off + p * 2, none⟩ = some (Value.int .i64 x.1) ∧ wr.drew.cell? ⟨blk, off + p * 2 + 1, none⟩ = some (Value.int .i64 x.2)) ∧ wr.drew.cell? ⟨blk, off + q * 2, none⟩ = some (Value.int .i64 y.1) ∧ wr.drew.cell? ⟨blk, off + q * 2 + 1, none⟩ = some (Value.int .i64 y.2)) ∧
    ((wr.drew.frozen? ⟨blk, off + p * 2, none⟩ = false ∧ wr.drew.frozen? ⟨blk, off + p * 2 + 1, none⟩ = false) ∧ wr.drew.frozen? ⟨blk, off + q * 2, none⟩ = false ∧ wr.drew.frozen? ⟨blk, off + q * 2 + 1, none⟩ = false) ∧
    ((wr.cell? ⟨blk, off + p * 2, none⟩ = some (Value.int .i64 x.1) ∧ wr.cell? ⟨blk, off + p * 2 + 1, none⟩ = some (Value.int .i64 x.2)) ∧ wr.cell? ⟨blk, off + q * 2, none⟩ = some (Value.int .i64 y.1) ∧ wr.cell? ⟨blk, off + q * 2 + 1, none⟩ = some (Value.int .i64 y.2)) ∧
    ((wr.frozen? ⟨blk, off + p * 2, none⟩ = false ∧ wr.frozen? ⟨blk, off + p * 2 + 1, none⟩ = false) ∧ wr.frozen? ⟨blk, off + q * 2, none⟩ = false ∧ wr.frozen? ⟨blk, off + q * 2 + 1, none⟩ = false) ∧
    SWK enc 2 w0 blk off (swp dj p q) ((((wr.drew.setCell ⟨blk, off + p * 2, none⟩ (Value.int .i64 y.1)).setCell ⟨blk, off + p * 2 + 1, none⟩ (Value.int .i64 y.2)).setCell ⟨blk, off + q * 2, none⟩ (Value.int .i64 x.1)).setCell ⟨blk, off + q * 2 + 1, none⟩ (Value.int .i64 x.2)) := by
  have S2 := S1.swapped Rw p q hp hq
  have H := S1.holds Rw.hblk Rw.hH hs
  have h1 := H.cell hp (show 0 < 2 by decide)
  have h2 := H.cell hp (show 1 < 2 by decide)
  have h3 := H.cell hq (show 0 < 2 by decide)
  have h4 := H.cell hq (show 1 < 2 by decide)
  rw [hx] at h1 h2
  rw [hy] at h3 h4
  rw [hx, hy] at S2
  exact ⟨⟨⟨h1.1, h2.1⟩, h3.1, h4.1⟩, ⟨⟨h1.2, h2.2⟩, h3.2, h4.2⟩, ⟨⟨h1.1, h2.1⟩, h3.1, h4.1⟩, ⟨⟨h1.2, h2.2⟩, h3.2, h4.2⟩, S2⟩

/-- A row's two cells, in every world behind draws and new blocks. -/
theorem row_facts {w0 wr : World} {blk off : Nat} {d0 dj : Array R} (S1 : SWK enc 2 w0 blk off dj wr) (Rw : RowK enc 2 w0 blk off d0) (hs : dj.size = d0.size) (p : Nat) (hp : p < dj.size) (x : R) (hx : dj[p]! = x) (n : Nat) (os : Array Obj) :
    (grow (wr.drewN n) os).cell? ⟨blk, off + p * 2, none⟩ = some (Value.int .i64 x.1) ∧ (grow (wr.drewN n) os).cell? ⟨blk, off + p * 2 + 1, none⟩ = some (Value.int .i64 x.2) := by
  have H := (S1.grown n os).holds Rw.hblk Rw.hH hs
  have h1 := (H.cell hp (show 0 < 2 by decide)).1
  have h2 := (H.cell hp (show 1 < 2 by decide)).1
  rw [hx] at h1 h2
  exact ⟨h1, h2⟩

theorem shift_up {dk : Array R} {A M B : List R} {x0 : R} {t : Nat} (h : dk.toList = A ++ (M.take t ++ (x0 :: (M.drop t ++ B)))) (ht : t < M.length) :
    ∃ y, dk[A.length + t]! = x0 ∧ dk[A.length + t + 1]! = y ∧ (swp dk (A.length + t) (A.length + t + 1)).toList = A ++ (M.take (t + 1) ++ (x0 :: (M.drop (t + 1) ++ B))) := by
  have hl : (A ++ M.take t).length = A.length + t := by rw [List.length_append, List.length_take]; omega
  have e : dk.toList = (A ++ M.take t) ++ x0 :: ([] ++ M[t] :: (M.drop (t + 1) ++ B)) := by
    rw [h, List.drop_eq_getElem_cons ht]
    simp only [List.append_assoc, List.nil_append, List.cons_append]
  have hs := (swp_toList dk _ [] _ x0 M[t] e).1
  rw [hl, show A.length + t + 1 + ([] : List R).length = A.length + t + 1 from rfl] at hs
  refine ⟨M[t], get_bang _ _ _ ?_, get_bang _ _ _ ?_, ?_⟩
  · rw [e, ← hl]; simp
  · rw [e, ← hl, List.getElem?_append_right (by omega)]; simp
  · rw [hs, List.take_succ_eq_append_getElem ht]; simp only [List.append_assoc, List.nil_append, List.cons_append]

set_option maxRecDepth 1000000 in
set_option maxHeartbeats 4000000 in
theorem sym_first (w0 w : World) (blk off cap N a m b : Nat) (d0 d : Array R) (A : List R) (x0 : R) (M B : List R) (S : SWK enc 2 w0 blk off d w) (Rw : RowK enc 2 w0 blk off d0) (hs : d.size = d0.size) (hN : d.size = N) (hsz : N < 4611686018427387904)
    (hd : d.toList = A ++ ([x0] ++ (M ++ B))) (hM : 0 < M.length) (ha : a = A.length) (hm : m = a + 1) (hb : b = m + M.length) (hsM : srt M) :
    Calls Try.prog 91 #[.slice (some ⟨blk, off, none⟩) N cap, .int .i64 a, .int .i64 m, .int .i64 b, .func (.func 70) #[] #[]] w (SymP w0 blk off A [x0] M B) := by
  have hlen := size_of_list hd
  simp only [List.length_append, List.length_cons, List.length_nil] at hlen
  have hd2 : d.toList = (A ++ [x0]) ++ (M ++ B) := by rw [hd]; simp
  have lA : (A ++ [x0]).length = m := by simp; omega
  have sM : SIn d m b := by have := sin_of hd2 hsM; rwa [lA, ← hb] at this
  have gx : d[a]! = x0 := by have := part_get hd 0 x0 (by simp); rwa [← ha] at this
  have S0 := Lib.hid S
  have HR := Lib.hid Rw
  have HD := Lib.hid hd2
  have HSM := Lib.hid sM
  have HGX := Lib.hid gx
  have HSR := Lib.hid hsM
  have HDD := Lib.hid hd
  have HS := Lib.hid (show d.size = d0.size ∧ N = d.size by omega)
  have HL := Lib.hid (show m = (A ++ [x0]).length by omega)
  have HX := Lib.hid (show a = A.length ∧ m = a + 1 ∧ b = m + M.length ∧ b ≤ N ∧ N < 4611686018427387904 by omega)
  have e1 : (m : Int) - (a : Int) = 1 := by omega
  have n1 : b ≤ N := by omega
  have n2 : a < m := by omega
  have n3 : m ≤ b := by omega
  clear S Rw hd hd2 hs lA sM gx hlen hN ha hm hb hM hsM
  go_enter Try.func91, Try.ntmps91
  go_wp2
  go_loopg [10, 11] (b - m) (fun (gh : Nat) s10 s11 wx => ∃ i j : Nat, gh = j - i ∧ m ≤ i ∧ i ≤ j ∧ j ≤ b ∧ s10 = .int .i64 (i : Int) ∧ s11 = .int .i64 (j : Int) ∧ Hid (∀ c, m ≤ c → c < i → Ky.lt d[c]!.1 x0.1 = true) ∧ Hid (∀ c, j ≤ c → c < b → Ky.lt d[c]!.1 x0.1 = false) ∧ Hid (SWK enc 2 w0 blk off d wx))
  case atStart => exact ⟨m, b, rfl, Nat.le_refl _, n3, Nat.le_refl _, rfl, rfl, fun c _ _ => by omega, fun c _ _ => by omega, S0⟩
  case round =>
    clear S0 e1
    obtain ⟨i, j, rfl, hi, hij, hj, rfl, rfl, HB1, HB2, S1⟩ := hrel
    by_cases hlt : i < j
    · obtain ⟨y, hy⟩ : ∃ y, d[(i + j) / 2]! = y := ⟨_, rfl⟩
      have hh1 : i ≤ (i + j) / 2 := by omega
      have hh2 : (i + j) / 2 < j := by omega
      have fr1 := row_facts S1.out HR.out HS.out.1 ((i + j) / 2) (by have := HS.out.2; omega) y hy
      have fr2 := row_facts S1.out HR.out HS.out.1 a (by have := HS.out.2; omega) x0 HGX.out
      have c1 : ∀ n os, (grow (wr.drewN n) os).cell? ⟨blk, off + (i + j) / 2 * 2, none⟩ = some (Value.int .i64 y.1) := fun n os => (fr1 n os).1
      have c2 : ∀ n os, (grow (wr.drewN n) os).cell? ⟨blk, off + (i + j) / 2 * 2 + 1, none⟩ = some (Value.int .i64 y.2) := fun n os => (fr1 n os).2
      have c3 : ∀ n os, (grow (wr.drewN n) os).cell? ⟨blk, off + a * 2, none⟩ = some (Value.int .i64 x0.1) := fun n os => (fr2 n os).1
      have c4 : ∀ n os, (grow (wr.drewN n) os).cell? ⟨blk, off + a * 2 + 1, none⟩ = some (Value.int .i64 x0.2) := fun n os => (fr2 n os).2
      have hcall := fun W => cmpc_any y x0 W
      have hneg := cmpK_neg y.1 x0.1
      obtain ⟨z, hz⟩ : ∃ z, z = cmpK y.1 x0.1 := ⟨_, rfl⟩
      rw [← hz] at hcall hneg
      have HC := Lib.hid hcall
      have HNG := Lib.hid hneg
      have HY := Lib.hid hy
      have mixed : Try.prog.follows .mixedOrders = true := by kernel_rfl
      have q1 : (a : Int) < (N : Int) := by omega
      have q2 : (0 : Int) ≤ (a : Int) := by omega
      have p1 : (0 : Int) ≤ ((i : Int) + (j : Int)) / 2 := by omega
      have p2 : ((i : Int) + (j : Int)) / 2 < (N : Int) := by omega
      have p3 : (((i : Int) + (j : Int)) / 2).toNat = (i + j) / 2 := by omega
      clear fr1 fr2 hcall hneg hz hy
      by_cases hx : z < 0
      · have HM1 : Hid (∀ c, m ≤ c → c < (i + j) / 2 + 1 → Ky.lt d[c]!.1 x0.1 = true) := fun c hc1 hc2 => le_lt (HSM.out c ((i + j) / 2) hc1 (by omega) (by omega)) (by rw [HY.out]; exact HNG.out.1 hx)
        go_wp2_with fail
        go_quiet_grown (first | (go_at_call 70; refine Calls.grown_of (HC.out _)))
        have S2 := Lib.hid (S1.out.grown nq osq)
        go_wp2
        go_roundg (j - ((i + j) / 2 + 1))
        case measure => omega
        case rel => exact ⟨(i + j) / 2 + 1, j, rfl, by omega, by omega, hj, by go_num, rfl, HM1, HB2, S2⟩
      · have HM1 : Hid (∀ c, (i + j) / 2 ≤ c → c < b → Ky.lt d[c]!.1 x0.1 = false) := fun c hc1 hc2 => by
          have h0 : Ky.lt y.1 x0.1 = false := by
            cases f : Ky.lt y.1 x0.1
            · rfl
            · exact absurd (HNG.out.2 f) hx
          have h1 := HSM.out ((i + j) / 2) c (by omega) hc1 hc2
          rw [HY.out] at h1
          cases f : Ky.lt d[c]!.1 x0.1
          · rfl
          · have := le_lt h1 f
            rw [h0] at this
            cases this
        go_wp2_with fail
        go_quiet_grown (first | (go_at_call 70; refine Calls.grown_of (HC.out _)))
        have S2 := Lib.hid (S1.out.grown nq osq)
        go_wp2
        go_roundg ((i + j) / 2 - i)
        case measure => omega
        case rel => exact ⟨i, (i + j) / 2, rfl, hi, hh1, by omega, rfl, by go_num, HB1, HM1, S2⟩
    · obtain rfl : i = j := by omega
      have t0 : decide ((i : Int) < (i : Int)) = false := by simp
      have r1 : IntKind.i64.wrap ((i : Int) - 1) = (i : Int) - 1 := wrap_fits _ (by omega)
      go_wp2
      have h0 : Hid (∃ dk : Array R, dk.toList = A ++ (M.take (a - a) ++ (x0 :: (M.drop (a - a) ++ B))) ∧ dk.size = N ∧ SWK enc 2 w0 blk off dk wr) := ⟨d, by rw [HDD.out, Nat.sub_self]; simp, HS.out.2.symm, S1.out⟩
      go_loopg [13] (i - 1 - a) (fun (gh : Nat) s13 wx => ∃ k : Nat, gh = i - 1 - k ∧ a ≤ k ∧ k ≤ i - 1 ∧ s13 = .int .i64 (k : Int) ∧ Hid (∃ dk : Array R, dk.toList = A ++ (M.take (k - a) ++ (x0 :: (M.drop (k - a) ++ B))) ∧ dk.size = N ∧ SWK enc 2 w0 blk off dk wx))
      case atStart => exact ⟨a, rfl, Nat.le_refl _, by omega, rfl, h0⟩
      case round =>
        clear h0 S1
        obtain ⟨k, rfl, hk1, hk2, rfl, hinv⟩ := hrel
        obtain ⟨dk, hdk, hdN, S1⟩ := hinv.out
        by_cases hkl : k < i - 1
        · obtain ⟨y, gx, gy, hsw⟩ := shift_up hdk (by have := HX.out; omega)
          have ek1 : A.length + (k - a) = k := by have := HX.out; omega
          rw [ek1] at gx gy hsw
          obtain ⟨⟨⟨c1, c2⟩, c3, c4⟩, ⟨⟨f1, f2⟩, f3, f4⟩, ⟨⟨d1, d2⟩, d3, d4⟩, ⟨⟨g1, g2⟩, g3, g4⟩, S3⟩ := swap_facts S1 HR.out (by rw [hdN, HS.out.2]; exact HS.out.1) k (k + 1) (by have := HX.out; omega) (by have := HX.out; omega) x0 y gx gy
          have S4 := Lib.hid S3
          have HSW := Lib.hid hsw
          have HDN := Lib.hid hdN
          have u1 : (k : Int) < (i : Int) - 1 := by omega
          have u2 : (k : Int) < (N : Int) := by have := HX.out; omega
          have u3 : (0 : Int) ≤ (k : Int) := by omega
          have pa : (0 : Int) ≤ (k : Int) + 1 := by omega
          have ba : (k : Int) + 1 < (N : Int) := by have := HX.out; omega
          have ra : IntKind.i64.wrap ((k : Int) + 1) = (k : Int) + 1 := wrap_fits _ (by have := HX.out; omega)
          have ea : ((k : Int) + 1).toNat = k + 1 := by omega
          have HKK := Lib.hid (show i - 1 - (k + 1) < i - 1 - k ∧ k + 1 - a = k - a + 1 ∧ a ≤ k + 1 ∧ k + 1 ≤ i - 1 by omega)
          clear hsw gx gy hdk hinv S1 S3 hdN ek1 t0 HB1 HB2 hk1 hk2 hkl
          go_wp2_with fail
          go_region
          go_wp2
          go_roundg (i - 1 - (k + 1))
          case measure => exact HKK.out.1
          case rel => exact ⟨k + 1, rfl, HKK.out.2.2.1, HKK.out.2.2.2, by go_num, ⟨_, by rw [HKK.out.2.1]; exact HSW.out, by rw [size_swp]; exact HDN.out, S4.out⟩⟩
        · have u1 : ¬ (k : Int) < (i : Int) - 1 := by omega
          have HF : Hid (∃ (d' : Array R) (C : List R), d'.toList = A ++ (C ++ B) ∧ Mrg [x0] M C ∧ SWK enc 2 w0 blk off d' wr) := by
            refine ⟨dk, M.take (k - a) ++ x0 :: M.drop (k - a), by rw [hdk]; simp, ?_, S1⟩
            have hx := HX.out
            have h1 := HD.out
            have hl := HL.out
            have hmg := Mrg.one_left (x := x0) (R1 := M.take (k - a)) (R2 := M.drop (k - a)) (by rw [List.take_append_drop]; exact HSR.out) (fun r hr => by
              obtain ⟨c, c1, c2, c3, rfl⟩ := mem_take_get h1 hr
              exact HB1.out c (by omega) (by omega)) (fun r hr => by
              obtain ⟨c, c1, c2, rfl⟩ := mem_drop_get h1 hr
              exact HB2.out c (by omega) (by omega))
            rwa [List.take_append_drop] at hmg
          clear hinv hdk hdN S1 hk1 hk2 hkl
          go_wp2
          try simp only [Exit.inBlock, Exit.then]
          refine bodyPost_ret (results_none rfl _ _ _) rfl ?_
          exact ⟨rfl, HF.out⟩
end Go.Proofs.Ytflhpijcfiamgaa.Tb.Ii
