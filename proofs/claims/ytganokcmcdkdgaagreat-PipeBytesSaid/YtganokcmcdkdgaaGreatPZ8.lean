/-
  The contracts of Next, Open, Make and Bend. Conditions: at most two million bytes.
-/
import Derived.Test.YtganokcmcdkdgaaGreatFRead
import Derived.Lib.AppendZeros
namespace Go.Proofs.YtganokcmcdkdgaaGreat.Fr
open Go.RowKit

set_option maxRecDepth 100000 in
set_option maxHeartbeats 1000000 in
theorem next_any (w : World) (v : Value) (l : List Int) (h : BAt w v l) (hb : bok l) (hn : l.length ≤ 2000000) : Calls Tryz.prog 50 #[v] w fun e w' => Fst l e w' ∧ Below w.heap.size w w' := by
  have HF := Lib.hid (first_any w v l h hb hn)
  obtain ⟨B, hB⟩ : ∃ B, B = nxB l := ⟨_, rfl⟩
  obtain ⟨N, hN⟩ : ∃ N, N = nxN l := ⟨_, rfl⟩
  obtain ⟨E, hE⟩ : ∃ E, E = nxE l := ⟨_, rfl⟩
  have HBL : Hid (B.length ≤ 2000000) := by
    show _ ≤ _
    rw [hB]; unfold nxB; split
    · rw [List.length_take, List.length_drop]; omega
    · simp
  have HD : Hid (B = nxB l ∧ N = nxN l ∧ E = nxE l) := ⟨hB, hN, hE⟩
  clear h hb hn hB hN hE
  go_enter Tryz.func50, Tryz.ntmps50
  go_wp2_with (first
    | (go_at_call 47; refine (clone_any w1 _ B HA.out HBL.out).mono ?_; rintro e w2 ⟨u, rfl, ho, hb2⟩
       obtain ⟨A2, n2, c2, rfl⟩ : ∃ A n c, u = Value.slice A n c := (by obtain ⟨A, c, h, _⟩ := BAt.of_own ho; exact ⟨A, _, c, h⟩)
       have HO := Lib.hid (BAt.of_own ho)
       have HB2 := Lib.hid (HB1.out.trans (hb2.mono HB1.out.size))
       clear ho hb2)
    | (go_at_call 78; refine HF.out.mono ?_; rintro e w1 ⟨⟨A1, c1, rfl, ha⟩, hb1⟩
       rw [← HD.out.1] at ha
       rw [← HD.out.1, ← HD.out.2.1, ← HD.out.2.2]
       have HA := Lib.hid ha
       have HB1 := Lib.hid hb1
       clear ha hb1))
  go_ret3
  refine ⟨⟨A2, c2, ?_, ?_⟩, HB2.out⟩
  · have := HO.out.len.1
    rw [← HD.out.1, ← HD.out.2.1, ← HD.out.2.2, this]; rfl
  · rw [← HD.out.1]
    have := HO.out.len.1
    rw [this]
    exact HO.out

/-- What Open tells. -/
def Opn (l : List Int) (e : Ending) (w' : World) : Prop := ∃ A c, e = .returned (.tuple #[.slice A (opB l).length c, .int .i64 (opE l)]) ∧ BAt w' (.slice A (opB l).length c) (opB l)
set_option maxRecDepth 100000 in
set_option maxHeartbeats 1000000 in
theorem open_any (w : World) (v : Value) (l : List Int) (h : BAt w v l) (hb : bok l) (hn : l.length ≤ 2000000) : Calls Tryz.prog 22 #[v] w fun e w' => Opn l e w' ∧ Below w.heap.size w w' := by
  have HF := Lib.hid (next_any w v l h hb hn)
  obtain ⟨A, cap, rfl, _⟩ := h
  obtain ⟨n, hn1⟩ : ∃ n, n = l.length := ⟨_, rfl⟩
  rw [← hn1] at HF ⊢
  obtain ⟨B, hB⟩ : ∃ B, B = nxB l := ⟨_, rfl⟩
  obtain ⟨N, hN⟩ : ∃ N, N = nxN l := ⟨_, rfl⟩
  obtain ⟨E, hE⟩ : ∃ E, E = nxE l := ⟨_, rfl⟩
  have HD : Hid (B = nxB l ∧ N = nxN l ∧ E = nxE l) := ⟨hB, hN, hE⟩
  have HY : Hid (E = 0 → N < n → opB l = [] ∧ opE l = 3) := fun h1 h2 => by
    have h3 : nxE l = 0 := by rw [← hE]; exact h1
    have h4 : N = nn l + 8 := by rw [hN]; exact if_pos h3
    have h5 : opE l = 3 := if_pos ⟨h3, by omega⟩
    exact ⟨if_neg (by rw [h5]; decide), h5⟩
  have HX : Hid (¬ (E = 0 ∧ N < n) → opB l = B ∧ opE l = E) := fun h1 => by
    have h5 : opE l = nxE l := if_neg (fun h2 => h1 ⟨by rw [hE]; exact h2.1, by rw [hN, hn1]; unfold nxN; rw [if_pos h2.1]; exact h2.2⟩)
    refine ⟨?_, by rw [h5, hE]⟩
    unfold opB
    rw [h5, hB]
    rfl
  clear hb hn hB hN hE hn1
  by_cases hE0 : E = 0
  · by_cases hNn : N < n
    · have t1 : (N : Int) < (n : Int) := by omega
      obtain ⟨k1, k2⟩ := HY.out hE0 hNn
      have K := Lib.hid k1
      have K2 := Lib.hid k2
      subst hE0
      clear k1 k2
      go_enter Tryz.func22, Tryz.ntmps22
      go_wp2_with (go_at_call 50; refine HF.out.mono ?_; rintro e w1 ⟨⟨A1, c1, rfl, ha⟩, hb1⟩
                   rw [← HD.out.1, ← HD.out.2.1, ← HD.out.2.2]
                   have HB1 := Lib.hid hb1
                   clear ha hb1)
      go_ret2
      refine ⟨⟨none, 0, ?_, ?_⟩, HB1.out⟩
      · rw [K.out, K2.out]; rfl
      · rw [K.out]; exact BAt.nil _
    · have t1 : ¬ (N : Int) < (n : Int) := by omega
      obtain ⟨k1, k2⟩ := HX.out (fun h => hNn h.2)
      have K := Lib.hid k1
      have K2 := Lib.hid k2
      subst hE0
      clear k1 k2
      go_enter Tryz.func22, Tryz.ntmps22
      go_wp2_with (go_at_call 50; refine HF.out.mono ?_; rintro e w1 ⟨⟨A1, c1, rfl, ha⟩, hb1⟩
                   rw [← HD.out.1] at ha
                   rw [← HD.out.1, ← HD.out.2.1, ← HD.out.2.2]
                   have HA := Lib.hid ha
                   have HB1 := Lib.hid hb1
                   clear ha hb1)
      go_ret2
      refine ⟨⟨A1, c1, ?_, ?_⟩, HB1.out⟩
      · rw [K.out, K2.out]; rfl
      · rw [K.out]; exact HA.out
  · obtain ⟨k1, k2⟩ := HX.out (fun h => hE0 h.1)
    have K := Lib.hid k1
    have K2 := Lib.hid k2
    clear k1 k2
    go_enter Tryz.func22, Tryz.ntmps22
    go_wp2_with (go_at_call 50; refine HF.out.mono ?_; rintro e w1 ⟨⟨A1, c1, rfl, ha⟩, hb1⟩
                 rw [← HD.out.1] at ha
                 rw [← HD.out.1, ← HD.out.2.1, ← HD.out.2.2]
                 have HA := Lib.hid ha
                 have HB1 := Lib.hid hb1
                 clear ha hb1)
    go_ret2
    refine ⟨⟨A1, c1, ?_, ?_⟩, HB1.out⟩
    · rw [K.out, K2.out]; rfl
    · rw [K.out]; exact HA.out
end Go.Proofs.YtganokcmcdkdgaaGreat.Fr

namespace Go.Proofs.YtganokcmcdkdgaaGreat.Fr
open Go.RowKit

theorem made_any (k : Nat) (hk : k ≤ 2000000) : ∃ M : Array Value, M.size = k * 1 ∧ ∀ W : World, (Instr.makeSlice 22 (.int .i64 0) (.int .i64 (k : Int))).run Tryz.prog W = .ok (.slice (some ⟨W.heap.size, 0, none⟩) 0 k) (W.alloc (.cells M 5)) := by
  obtain ⟨i0, hi0, hz0, hz1, hz2⟩ := info_parts u8Inf
  refine ⟨madeCells #[.int .u8 0] (k * 1), size_madeCells _ _, fun W => ?_⟩
  have h := run_make (P := Tryz.prog) W 22 5 i0 _ Tryz.underlying22 hi0 hz0 .i64 .i64 0 k (Int.le_refl _) (by omega) (by rw [hz2]; omega) (by omega)
  rw [hz1] at h
  exact h
theorem own_same {w w' : World} {base : Nat} {e : TypeId} {size n : Nat} {v : Value} {xs : List Value} (h : w.ownsRow base e size v n xs) (hb : Below w.heap.size w w') : w'.ownsRow base e size v n xs :=
  h.kept (row := none) ⟨hb.os, hb.tape, hb.output, hb.size, fun i hi _ => hb.block i hi⟩ (by
    rcases hv : v.ownBlock with _ | g
    · exact .inl rfl
    · exact .inr (by simp))
/-- What Make tells of bytes that may be framed. -/
def Mad (w : World) (l : List Int) (e : Ending) (w' : World) : Prop := ∃ A c, e = .returned (.tuple #[.slice A (l.length + 8) c, .int .i64 0]) ∧ w'.ownsRow w.heap.size 5 1 (.slice A (l.length + 8) c) (frF l).length (bv (frF l))
set_option maxRecDepth 100000 in
theorem make_long (w : World) (A : Option Addr) (n cap : Nat) (hn : 1048568 < n) :
    Calls Tryz.prog 21 #[.slice A n cap] w fun e w' => e = .returned (.tuple #[.slice none 0 0, .int .i64 2]) ∧ w = w' := by
  have t1 : (1048568 : Int) < (n : Int) := by omega
  go_enter Tryz.func21, Tryz.ntmps21
  go_wp2
  go_ret2
  exact ⟨rfl, rfl⟩
set_option maxRecDepth 100000 in
set_option maxHeartbeats 4000000 in
theorem make_any (w : World) (v : Value) (l : List Int) (h : BAt w v l) (hb : bok l) (hn : l.length ≤ 1048568) : Calls Tryz.prog 21 #[v] w fun e w' => Mad w l e w' ∧ Below w.heap.size w w' := by
  have H := Lib.hid h
  obtain ⟨A, cap, rfl, hcap, _⟩ := h
  obtain ⟨n, hnn⟩ : ∃ n, n = l.length := ⟨_, rfl⟩
  rw [← hnn] at H hn hcap ⊢
  obtain ⟨k, hk⟩ : ∃ k, k = n + 8 := ⟨_, rfl⟩
  obtain ⟨q, hq⟩ : ∃ q, q = n + 4 := ⟨_, rfl⟩
  obtain ⟨M, hM, hmk⟩ := made_any k (by omega)
  obtain ⟨c, hc⟩ : ∃ c, c = crc (hd l) := ⟨_, rfl⟩
  have hc2 : c < 4294967296 := by rw [hc]; exact crc_lt _
  have t1 : ¬ (1048568 : Int) < (n : Int) := by omega
  have e1 : (n : Int) + 8 = (k : Int) := by omega
  have e2 : IntKind.u32.wrap (n : Int) = (n : Int) := by rw [IntKind.wrap_u32]; omega
  have HL : Hid (n = l.length ∧ k = n + 8 ∧ q = n + 4 ∧ c = crc (hd l)) := ⟨hnn, hk, hq, hc⟩
  have HB := Lib.hid hb
  have HO0 : Hid ((w.alloc (.cells M 5)).ownsRow w.heap.size 5 1 (.slice (some ⟨w.heap.size, 0, none⟩) 0 k) 0 []) := World.ownsRow_made w M k (Nat.le_refl _) (by unfold maxLen; omega) hM
  have HP : Hid (Calls Tryz.prog 48 #[.slice (some ⟨w.heap.size, 0, none⟩) 0 k, .int .u32 (n : Int)] (w.alloc (.cells M 5)) fun e w' => ∃ A c, e = .returned (.slice A 4 c) ∧ w'.ownsRow w.heap.size 5 1 (.slice A 4 c) (num4 n).length (bv (num4 n)) ∧ Below w.heap.size w w') := by
    have h1 := put_own (w.alloc (.cells M 5)) w.heap.size _ [] n HO0.out (by simp) (by decide) (by omega)
    exact h1.mono fun e w' ⟨A, c, h2, h3, h4⟩ => ⟨A, c, h2, h3, ((Below.refl _ w).alloc (Nat.le_refl _) _).trans h4⟩
  have hk2 : k ≤ 1048576 := by omega
  have hq2 : q ≤ 1048572 := by omega
  clear hnn hk hq hc hb hM
  go_enter Tryz.func21, Tryz.ntmps21
  go_wp2_with (first
    | (go_at_call 48; (with_reducible refine (HP2.out).mono ?_); rintro e w5 ⟨A5, c5, rfl, ho5, hb5⟩
       have HO5 := Lib.hid ho5
       have HB5 := Lib.hid (HB3.out.trans hb5)
       clear ho5 hb5)
    | (go_at_call 49; (with_reducible refine (HS.out).mono ?_); rintro e w4 ⟨rfl, rfl⟩)
    | (at_builtin; refine Lib.wpList_append_run _ rfl _ _ 22 22 rfl _ _ rfl rfl _ _ HR.out ?_)
    | (go_at_call 48; refine HP.out.mono ?_; rintro e w2 ⟨A2, c2, rfl, ho2, hb2⟩
       have HB2 := Lib.hid hb2
       obtain ⟨A3, c3, w3, hr3, ho3, hg3⟩ := app_any w2 w.heap.size _ (num4 n) ho2 (.slice A n cap) l (H.out.kept HB2.out) (by rw [num4_len]; have := HL.out.1; omega) HB2.out.size
       have h3 : (num4 n).length + l.length = q := by rw [num4_len]; have := HL.out; omega
       rw [h3] at hr3 ho3
       have HR := Lib.hid hr3
       have HO3 : Hid (w3.ownsRow w.heap.size 5 1 (.slice A3 q c3) (hd l).length (bv (hd l))) := by unfold hd; rw [← HL.out.1]; exact ho3
       have HB3 : Hid (Below w.heap.size w w3) := HB2.out.grown hg3 HB2.out.size (fun j hj => (ho2.lt j hj).1)
       have HW3 : Hid (Below w3.heap.size w3 (w3.alloc (.cells #[.slice A3 q c3] 22))) := (Below.refl _ _).alloc (Nat.le_refl _) _
       have hbb : bok (hd l) := hd_bok HB.out
       have hln : (hd l).length ≤ 2000000 := by rw [hd_len, ← HL.out.1]; omega
       have HS : Hid (Calls Tryz.prog 49 #[.slice (some ⟨w3.heap.size, 0, none⟩) 1 1] (w3.alloc (.cells #[.slice A3 q c3] 22)) fun e w' => e = .returned (.int .u32 (c : Int)) ∧ (w3.alloc (.cells #[.slice A3 q c3] 22)) = w') := by
         have h4 := sum_any _ _ _ (PAt.one (BAt.of_own HO3.out)) (boks_one hbb hln)
         rw [List.flatten_cons, List.flatten_nil, List.append_nil, ← HL.out.2.2.2] at h4
         exact h4
       have HP2 : Hid (Calls Tryz.prog 48 #[.slice A3 q c3, .int .u32 (c : Int)] (w3.alloc (.cells #[.slice A3 q c3] 22)) fun e w' => ∃ A c, e = .returned (.slice A k c) ∧ w'.ownsRow w.heap.size 5 1 (.slice A k c) (frF l).length (bv (frF l)) ∧ Below w.heap.size w3 w') := by
         have h4 := put_own (w3.alloc (.cells #[.slice A3 q c3] 22)) w.heap.size _ (hd l) c (own_same HO3.out HW3.out) (Nat.le_trans HB3.out.size HW3.out.size) hln hc2
         rw [show (hd l).length + 4 = k by rw [hd_len]; have := HL.out; omega] at h4
         rw [HL.out.2.2.2] at h4 ⊢
         exact h4.mono fun e w' ⟨A, c, h5, h6, h7⟩ => ⟨A, c, h5, h6, (HW3.out.mono HB3.out.size).trans h7⟩
       clear ho2 hb2 hr3 ho3 hg3 hbb hln h3))
  go_ret2
  have hkl : l.length + 8 = k := by have := HL.out; omega
  refine ⟨⟨A5, c5, ?_, ?_⟩, HB5.out⟩
  · rw [hkl]; rfl
  · rw [hkl]; exact HO5.out

theorem bits_xor8 (a b : Int) (ha : 0 ≤ a ∧ a < 256) (hb : 0 ≤ b ∧ b < 256) : bits .xor .u8 a b = xb a b := by
  show IntKind.u8.wrap ((BitVec.ofInt 8 a ^^^ BitVec.ofInt 8 b).toNat : Int) = _
  have h1 := xb_bok ha hb
  have e1 : (BitVec.ofInt 8 a).toNat = a.toNat := by rw [BitVec.toNat_ofInt]; omega
  have e2 : (BitVec.ofInt 8 b).toNat = b.toNat := by rw [BitVec.toNat_ofInt]; omega
  rw [BitVec.toNat_xor, e1, e2, IntKind.wrap_u8]
  show xb a b % 256 = xb a b
  omega
/-- A cell of a row of the call's own is turned. -/
theorem own_set {w : World} {base g n cap : Nat} {l : List Int} (h : w.ownsRow base 5 1 (.slice (some ⟨g, 0, none⟩) n cap) l.length (bv l)) (i : Nat) (_hi : i < l.length) (x : Int) :
    (w.setCell ⟨g, i, none⟩ (.int .u8 x)).ownsRow base 5 1 (.slice (some ⟨g, 0, none⟩) n cap) l.length (bv (l.set i x)) := by
  rcases h.2 with ⟨h1, _⟩ | ⟨g2, cap2, cur, h1, hb, hg, hnc, hcm, hcs, htake⟩
  · cases h1
  · cases h1
    refine ⟨by rw [bv_len, List.length_set, Nat.mul_one], .inr ⟨g, cap, cur.setIfInBounds i (.int .u8 x), rfl, hb, ?_, hnc, hcm, by simpa using hcs, ?_⟩⟩
    · simp only [World.setCell, Array.getElem?_modify, if_true]; rw [hg]; rfl
    · rw [Array.toList_setIfInBounds, List.take_set, htake]
      simp [bv]
/-- What Bend tells. -/
def Bnd (w : World) (l : List Int) (a b : Int) (e : Ending) (w' : World) : Prop := ∃ A c, e = .returned (.slice A l.length c) ∧ w'.ownsRow w.heap.size 5 1 (.slice A l.length c) (bend l a b).length (bv (bend l a b))
end Go.Proofs.YtganokcmcdkdgaaGreat.Fr
