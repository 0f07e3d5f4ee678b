/-
  The contracts of Next, Open, Make and Bend. Conditions: at most two million bytes.
-/
import Derived.Test.YtklngdmpledgeaaFRead
import Derived.Lib.AppendZeros
import Derived.Lib.SlBytesConst
namespace Go.Proofs.Ytklngdmpledgeaa.Fr
open Go.RowKit

set_option maxRecDepth 100000 in
set_option maxHeartbeats 1000000 in
theorem next_any (w : World) (v : Value) (l : List Int) (h : BAt w v l) (hb : bok l) (hn : l.length ≤ 2000000) : Calls Try.prog 132 #[v] w fun e w' => Fst l e w' ∧ Below w.heap.size w w' := by
  have HF := Lib.hid (first_any w v l h hb hn)
  obtain ⟨B, hB⟩ : ∃ B, B = nxB l := ⟨_, rfl⟩
  obtain ⟨N, hN⟩ : ∃ N, N = nxN l := ⟨_, rfl⟩
  obtain ⟨E, hE⟩ : ∃ E, E = nxE l := ⟨_, rfl⟩
  have HBL : Hid (B.length ≤ 2000000) := by
    show _ ≤ _
    rw [hB]; unfold nxB; split
    · rw [List.length_take, List.length_drop]; omega
    · simp
  have HD : Hid (B = nxB l ∧ N = nxN l ∧ E = nxE l) := ⟨hB, hN, hE⟩
  clear h hb hn hB hN hE
  go_enter Try.func132, Try.ntmps132
  go_wp2_with (first
    | (go_at_call 69; refine (clone_any w1 _ B HA.out HBL.out).mono ?_; rintro e w2 ⟨u, rfl, ho, hb2⟩
       obtain ⟨A2, n2, c2, rfl⟩ : ∃ A n c, u = Value.slice A n c := (by obtain ⟨A, c, h, _⟩ := BAt.of_own ho; exact ⟨A, _, c, h⟩)
       have HO := Lib.hid (BAt.of_own ho)
       have HB2 := Lib.hid (HB1.out.trans (hb2.mono HB1.out.size))
       clear ho hb2)
    | (go_at_call 161; refine HF.out.mono ?_; rintro e w1 ⟨⟨A1, c1, rfl, ha⟩, hb1⟩
       rw [← HD.out.1] at ha
       rw [← HD.out.1, ← HD.out.2.1, ← HD.out.2.2]
       have HA := Lib.hid ha
       have HB1 := Lib.hid hb1
       clear ha hb1))
  go_ret3
  refine ⟨⟨A2, c2, ?_, ?_⟩, HB2.out⟩
  · have := HO.out.len.1
    rw [← HD.out.1, ← HD.out.2.1, ← HD.out.2.2, this]; rfl
  · rw [← HD.out.1]
    have := HO.out.len.1
    rw [this]
    exact HO.out

/-- What Open tells. -/
def Opn (l : List Int) (e : Ending) (w' : World) : Prop := ∃ A c, e = .returned (.tuple #[.slice A (opB l).length c, .int .i64 (opE l)]) ∧ BAt w' (.slice A (opB l).length c) (opB l)
set_option maxRecDepth 100000 in
set_option maxHeartbeats 1000000 in
theorem open_any (w : World) (v : Value) (l : List Int) (h : BAt w v l) (hb : bok l) (hn : l.length ≤ 2000000) : Calls Try.prog 95 #[v] w fun e w' => Opn l e w' ∧ Below w.heap.size w w' := by
  have HF := Lib.hid (next_any w v l h hb hn)
  obtain ⟨A, cap, rfl, _⟩ := h
  obtain ⟨n, hn1⟩ : ∃ n, n = l.length := ⟨_, rfl⟩
  rw [← hn1] at HF ⊢
  obtain ⟨B, hB⟩ : ∃ B, B = nxB l := ⟨_, rfl⟩
  obtain ⟨N, hN⟩ : ∃ N, N = nxN l := ⟨_, rfl⟩
  obtain ⟨E, hE⟩ : ∃ E, E = nxE l := ⟨_, rfl⟩
  have HD : Hid (B = nxB l ∧ N = nxN l ∧ E = nxE l) := ⟨hB, hN, hE⟩
  have HY : Hid (E = 0 → N < n → opB l = [] ∧ opE l = 3) := fun h1 h2 => by
    have h3 : nxE l = 0 := by rw [← hE]; exact h1
    have h4 : N = nn l + 8 := by rw [hN]; exact if_pos h3
    have h5 : opE l = 3 := if_pos ⟨h3, by omega⟩
    exact ⟨if_neg (by rw [h5]; decide), h5⟩
  have HX : Hid (¬ (E = 0 ∧ N < n) → opB l = B ∧ opE l = E) := fun h1 => by
    have h5 : opE l = nxE l := if_neg (fun h2 => h1 ⟨by rw [hE]; exact h2.1, by rw [hN, hn1]; unfold nxN; rw [if_pos h2.1]; exact h2.2⟩)
    refine ⟨?_, by rw [h5, hE]⟩
    unfold opB
    rw [h5, hB]
    rfl
  clear hb hn hB hN hE hn1
  by_cases hE0 : E = 0
  · by_cases hNn : N < n
    · have t1 : (N : Int) < (n : Int) := by omega
      obtain ⟨k1, k2⟩ := HY.out hE0 hNn
      have K := Lib.hid k1
      have K2 := Lib.hid k2
      subst hE0
      clear k1 k2
      go_enter Try.func95, Try.ntmps95
      go_wp2_with (go_at_call 132; refine HF.out.mono ?_; rintro e w1 ⟨⟨A1, c1, rfl, ha⟩, hb1⟩
                   rw [← HD.out.1, ← HD.out.2.1, ← HD.out.2.2]
                   have HB1 := Lib.hid hb1
                   clear ha hb1)
      go_ret2
      refine ⟨⟨none, 0, ?_, ?_⟩, HB1.out⟩
      · rw [K.out, K2.out]; rfl
      · rw [K.out]; exact BAt.nil _
    · have t1 : ¬ (N : Int) < (n : Int) := by omega
      obtain ⟨k1, k2⟩ := HX.out (fun h => hNn h.2)
      have K := Lib.hid k1
      have K2 := Lib.hid k2
      subst hE0
      clear k1 k2
      go_enter Try.func95, Try.ntmps95
      go_wp2_with (go_at_call 132; refine HF.out.mono ?_; rintro e w1 ⟨⟨A1, c1, rfl, ha⟩, hb1⟩
                   rw [← HD.out.1] at ha
                   rw [← HD.out.1, ← HD.out.2.1, ← HD.out.2.2]
                   have HA := Lib.hid ha
                   have HB1 := Lib.hid hb1
                   clear ha hb1)
      go_ret2
      refine ⟨⟨A1, c1, ?_, ?_⟩, HB1.out⟩
      · rw [K.out, K2.out]; rfl
      · rw [K.out]; exact HA.out
  · obtain ⟨k1, k2⟩ := HX.out (fun h => hE0 h.1)
    have K := Lib.hid k1
    have K2 := Lib.hid k2
    clear k1 k2
    go_enter Try.func95, Try.ntmps95
    go_wp2_with (go_at_call 132; refine HF.out.mono ?_; rintro e w1 ⟨⟨A1, c1, rfl, ha⟩, hb1⟩
                 rw [← HD.out.1] at ha
                 rw [← HD.out.1, ← HD.out.2.1, ← HD.out.2.2]
                 have HA := Lib.hid ha
                 have HB1 := Lib.hid hb1
                 clear ha hb1)
    go_ret2
    refine ⟨⟨A1, c1, ?_, ?_⟩, HB1.out⟩
    · rw [K.out, K2.out]; rfl
    · rw [K.out]; exact HA.out
end Go.Proofs.Ytklngdmpledgeaa.Fr

namespace Go.Proofs.Ytklngdmpledgeaa.Fr
open Go.RowKit

theorem made_any (k : Nat) (hk : k ≤ 2000000) : ∃ M : Array Value, M.size = k * 1 ∧ ∀ W : World, (Instr.makeSlice 32 (.int .i64 0) (.int .i64 (k : Int))).run Try.prog W = .ok (.slice (some ⟨W.heap.size, 0, none⟩) 0 k) (W.alloc (.cells M 5)) := by
  obtain ⟨i0, hi0, hz0, hz1, hz2⟩ := info_parts u8Inf
  refine ⟨madeCells #[.int .u8 0] (k * 1), size_madeCells _ _, fun W => ?_⟩
  have h := run_make (P := Try.prog) W 32 5 i0 _ Try.underlying32 hi0 hz0 .i64 .i64 0 k (Int.le_refl _) (by omega) (by rw [hz2]; omega) (by omega)
  rw [hz1] at h
  exact h
theorem own_same {w w' : World} {base : Nat} {e : TypeId} {size n : Nat} {v : Value} {xs : List Value} (h : w.ownsRow base e size v n xs) (hb : Below w.heap.size w w') : w'.ownsRow base e size v n xs :=
  h.kept (row := none) ⟨hb.os, hb.tape, hb.output, hb.size, fun i hi _ => hb.block i hi⟩ (by
    rcases hv : v.ownBlock with _ | g
    · exact .inl rfl
    · exact .inr (by simp))
/-- What Make tells of bytes that may be framed. -/
def Mad (w : World) (l : List Int) (e : Ending) (w' : World) : Prop := ∃ A c, e = .returned (.tuple #[.slice A (l.length + 8) c, .int .i64 0]) ∧ w'.ownsRow w.heap.size 5 1 (.slice A (l.length + 8) c) (frF l).length (bv (frF l))
set_option maxRecDepth 100000 in
theorem make_long (w : World) (A : Option Addr) (n cap : Nat) (hn : 1048568 < n) :
    Calls Try.prog 94 #[.slice A n cap] w fun e w' => e = .returned (.tuple #[.slice none 0 0, .int .i64 2]) ∧ w = w' := by
  have t1 : (1048568 : Int) < (n : Int) := by omega
  go_enter Try.func94, Try.ntmps94
  go_wp2
  go_ret2
  exact ⟨rfl, rfl⟩
set_option maxRecDepth 100000 in
set_option maxHeartbeats 4000000 in
theorem make_any (w : World) (v : Value) (l : List Int) (h : BAt w v l) (hb : bok l) (hn : l.length ≤ 1048568) : Calls Try.prog 94 #[v] w fun e w' => Mad w l e w' ∧ Below w.heap.size w w' := by
  have H := Lib.hid h
  obtain ⟨A, cap, rfl, hcap, _⟩ := h
  obtain ⟨n, hnn⟩ : ∃ n, n = l.length := ⟨_, rfl⟩
  rw [← hnn] at H hn hcap ⊢
  obtain ⟨k, hk⟩ : ∃ k, k = n + 8 := ⟨_, rfl⟩
  obtain ⟨q, hq⟩ : ∃ q, q = n + 4 := ⟨_, rfl⟩
  obtain ⟨M, hM, hmk⟩ := made_any k (by omega)
  obtain ⟨c, hc⟩ : ∃ c, c = crc (hd l) := ⟨_, rfl⟩
  have hc2 : c < 4294967296 := by rw [hc]; exact crc_lt _
  have t1 : ¬ (1048568 : Int) < (n : Int) := by omega
  have e1 : (n : Int) + 8 = (k : Int) := by omega
  have e2 : IntKind.u32.wrap (n : Int) = (n : Int) := by rw [IntKind.wrap_u32]; omega
  have HL : Hid (n = l.length ∧ k = n + 8 ∧ q = n + 4 ∧ c = crc (hd l)) := ⟨hnn, hk, hq, hc⟩
  have HB := Lib.hid hb
  have HO0 : Hid ((w.alloc (.cells M 5)).ownsRow w.heap.size 5 1 (.slice (some ⟨w.heap.size, 0, none⟩) 0 k) 0 []) := World.ownsRow_made w M k (Nat.le_refl _) (by unfold maxLen; omega) hM
  have HP : Hid (Calls Try.prog 130 #[.slice (some ⟨w.heap.size, 0, none⟩) 0 k, .int .u32 (n : Int)] (w.alloc (.cells M 5)) fun e w' => ∃ A c, e = .returned (.slice A 4 c) ∧ w'.ownsRow w.heap.size 5 1 (.slice A 4 c) (num4 n).length (bv (num4 n)) ∧ Below w.heap.size w w') := by
    have h1 := put_own (w.alloc (.cells M 5)) w.heap.size _ [] n HO0.out (by simp) (by decide) (by omega)
    exact h1.mono fun e w' ⟨A, c, h2, h3, h4⟩ => ⟨A, c, h2, h3, ((Below.refl _ w).alloc (Nat.le_refl _) _).trans h4⟩
  have hk2 : k ≤ 1048576 := by omega
  have hq2 : q ≤ 1048572 := by omega
  clear hnn hk hq hc hb hM
  go_enter Try.func94, Try.ntmps94
  go_wp2_with (first
    | (go_at_call 130; (with_reducible refine (HP2.out).mono ?_); rintro e w5 ⟨A5, c5, rfl, ho5, hb5⟩
       have HO5 := Lib.hid ho5
       have HB5 := Lib.hid (HB3.out.trans hb5)
       clear ho5 hb5)
    | (go_at_call 131; (with_reducible refine (HS.out).mono ?_); rintro e w4 ⟨rfl, rfl⟩)
    | (at_builtin; refine Lib.wpList_append_run _ rfl _ _ 32 32 rfl _ _ rfl rfl _ _ HR.out ?_)
    | (go_at_call 130; refine HP.out.mono ?_; rintro e w2 ⟨A2, c2, rfl, ho2, hb2⟩
       have HB2 := Lib.hid hb2
       obtain ⟨A3, c3, w3, hr3, ho3, hg3⟩ := app_any w2 w.heap.size _ (num4 n) ho2 (.slice A n cap) l (H.out.kept HB2.out) (by rw [num4_len]; have := HL.out.1; omega) HB2.out.size
       have h3 : (num4 n).length + l.length = q := by rw [num4_len]; have := HL.out; omega
       rw [h3] at hr3 ho3
       have HR := Lib.hid hr3
       have HO3 : Hid (w3.ownsRow w.heap.size 5 1 (.slice A3 q c3) (hd l).length (bv (hd l))) := by unfold hd; rw [← HL.out.1]; exact ho3
       have HB3 : Hid (Below w.heap.size w w3) := HB2.out.grown hg3 HB2.out.size (fun j hj => (ho2.lt j hj).1)
       have HW3 : Hid (Below w3.heap.size w3 (w3.alloc (.cells #[.slice A3 q c3] 32))) := (Below.refl _ _).alloc (Nat.le_refl _) _
       have hbb : bok (hd l) := hd_bok HB.out
       have hln : (hd l).length ≤ 2000000 := by rw [hd_len, ← HL.out.1]; omega
       have HS : Hid (Calls Try.prog 131 #[.slice (some ⟨w3.heap.size, 0, none⟩) 1 1] (w3.alloc (.cells #[.slice A3 q c3] 32)) fun e w' => e = .returned (.int .u32 (c : Int)) ∧ (w3.alloc (.cells #[.slice A3 q c3] 32)) = w') := by
         have h4 := sum_any _ _ _ (PAt.one (BAt.of_own HO3.out)) (boks_one hbb hln)
         rw [List.flatten_cons, List.flatten_nil, List.append_nil, ← HL.out.2.2.2] at h4
         exact h4
       have HP2 : Hid (Calls Try.prog 130 #[.slice A3 q c3, .int .u32 (c : Int)] (w3.alloc (.cells #[.slice A3 q c3] 32)) fun e w' => ∃ A c, e = .returned (.slice A k c) ∧ w'.ownsRow w.heap.size 5 1 (.slice A k c) (frF l).length (bv (frF l)) ∧ Below w.heap.size w3 w') := by
         have h4 := put_own (w3.alloc (.cells #[.slice A3 q c3] 32)) w.heap.size _ (hd l) c (own_same HO3.out HW3.out) (Nat.le_trans HB3.out.size HW3.out.size) hln hc2
         rw [show (hd l).length + 4 = k by rw [hd_len]; have := HL.out; omega] at h4
         rw [HL.out.2.2.2] at h4 ⊢
         exact h4.mono fun e w' ⟨A, c, h5, h6, h7⟩ => ⟨A, c, h5, h6, (HW3.out.mono HB3.out.size).trans h7⟩
       clear ho2 hb2 hr3 ho3 hg3 hbb hln h3))
  go_ret2
  have hkl : l.length + 8 = k := by have := HL.out; omega
  refine ⟨⟨A5, c5, ?_, ?_⟩, HB5.out⟩
  · rw [hkl]; rfl
  · rw [hkl]; exact HO5.out

theorem bits_xor8 (a b : Int) (ha : 0 ≤ a ∧ a < 256) (hb : 0 ≤ b ∧ b < 256) : bits .xor .u8 a b = xb a b := by
  show IntKind.u8.wrap ((BitVec.ofInt 8 a ^^^ BitVec.ofInt 8 b).toNat : Int) = _
  have h1 := xb_bok ha hb
  have e1 : (BitVec.ofInt 8 a).toNat = a.toNat := by rw [BitVec.toNat_ofInt]; omega
  have e2 : (BitVec.ofInt 8 b).toNat = b.toNat := by rw [BitVec.toNat_ofInt]; omega
  rw [BitVec.toNat_xor, e1, e2, IntKind.wrap_u8]
  show xb a b % 256 = xb a b
  omega
/-- A cell of a row of the call's own is turned. -/
theorem own_set {w : World} {base g n cap : Nat} {l : List Int} (h : w.ownsRow base 5 1 (.slice (some ⟨g, 0, none⟩) n cap) l.length (bv l)) (i : Nat) (_hi : i < l.length) (x : Int) :
    (w.setCell ⟨g, i, none⟩ (.int .u8 x)).ownsRow base 5 1 (.slice (some ⟨g, 0, none⟩) n cap) l.length (bv (l.set i x)) := by
  rcases h.2 with ⟨h1, _⟩ | ⟨g2, cap2, cur, h1, hb, hg, hnc, hcm, hcs, htake⟩
  · cases h1
  · cases h1
    refine ⟨by rw [bv_len, List.length_set, Nat.mul_one], .inr ⟨g, cap, cur.setIfInBounds i (.int .u8 x), rfl, hb, ?_, hnc, hcm, by simpa using hcs, ?_⟩⟩
    · simp only [World.setCell, Array.getElem?_modify, if_true]; rw [hg]; rfl
    · rw [Array.toList_setIfInBounds, List.take_set, htake]
      simp [bv]
/-- What Bend tells. -/
def Bnd (w : World) (l : List Int) (a b : Int) (e : Ending) (w' : World) : Prop := ∃ A c, e = .returned (.slice A l.length c) ∧ w'.ownsRow w.heap.size 5 1 (.slice A l.length c) (bend l a b).length (bv (bend l a b))
end Go.Proofs.Ytklngdmpledgeaa.Fr

namespace Go.Proofs.Ytklngdmpledgeaa.Fr
open Go.RowKit

/-- A slice of slices of bytes. -/
def RIn (w : World) (A : Option Addr) (n c : Nat) : Prop := ∃ ls : List (List Int), PAt w (.slice A n c) ls ∧ ∀ l ∈ ls, bok l
theorem PAt.two {w : World} {u u' : Value} {l l' : List Int} (h : BAt w u l) (h' : BAt w u' l') : PAt (w.alloc (.cells #[u, u'] 32)) (.slice (some ⟨w.heap.size, 0, none⟩) 2 2) [l, l'] := by
  refine ⟨_, 2, rfl, Nat.le_refl _, fun _ => ⟨w.heap.size, 0, rfl, by simp, fun i hi => ?_⟩⟩
  have hb := block_new w (.cells #[u, u'] 32)
  have hk : Below w.heap.size w (w.alloc (.cells #[u, u'] 32)) := (Below.refl _ w).alloc (Nat.le_refl _) _
  have h2 : i = 0 ∨ i = 1 := by simp at hi; omega
  rcases h2 with rfl | rfl
  · exact ⟨u, by simp only [World.cell?, Nat.zero_add]; rw [hb]; rfl, h.kept hk⟩
  · exact ⟨u', by simp only [World.cell?, Nat.zero_add]; rw [hb]; rfl, h'.kept hk⟩
theorem crc_0 : crc [0, 0, 0, 0] = 558161692 := by decide +kernel
theorem crc_19 : crc [49, 50, 51, 52, 53, 54, 55, 56, 57] = 3421780262 := by decide +kernel
theorem fr_nil : frF [] = [0, 0, 0, 0, 33, 68, 223, 28] := by
  have h1 : hd [] = [0, 0, 0, 0] := by decide
  unfold frF
  rw [h1, crc_0]
  decide
theorem digits_bok : bok [49, 50, 51, 52] ∧ bok [53, 54, 55, 56, 57] := ⟨fun x hx => by simp at hx; omega, fun x hx => by simp at hx; omega⟩
theorem ksum (w1 : World) : Calls Try.prog 131 #[.slice (some ⟨w1.heap.size + 1 + 1, 0, none⟩) 2 2] (((w1.alloc (.cells #[.int .u8 49, .int .u8 50, .int .u8 51, .int .u8 52] 5 (4, 5))).alloc (.cells #[.int .u8 53, .int .u8 54, .int .u8 55, .int .u8 56, .int .u8 57] 5 (5, 6))).alloc (.cells #[.slice (some ⟨w1.heap.size, 0, none⟩) 4 4, .slice (some ⟨w1.heap.size + 1, 0, none⟩) 5 5] 32)) fun e w' =>
    e = .returned (.int .u32 3421780262) ∧ (((w1.alloc (.cells #[.int .u8 49, .int .u8 50, .int .u8 51, .int .u8 52] 5 (4, 5))).alloc (.cells #[.int .u8 53, .int .u8 54, .int .u8 55, .int .u8 56, .int .u8 57] 5 (5, 6))).alloc (.cells #[.slice (some ⟨w1.heap.size, 0, none⟩) 4 4, .slice (some ⟨w1.heap.size + 1, 0, none⟩) 5 5] 32)) = w' := by
  have h1 := (lit_at w1 [49, 50, 51, 52] (4, 5)).kept ((Below.refl _ _).alloc (Nat.le_refl _) (.cells #[.int .u8 53, .int .u8 54, .int .u8 55, .int .u8 56, .int .u8 57] 5 (5, 6)))
  have h2 := lit_at (w1.alloc (.cells #[.int .u8 49, .int .u8 50, .int .u8 51, .int .u8 52] 5 (4, 5))) [53, 54, 55, 56, 57] (5, 6)
  have h3 := sum_any _ _ _ (PAt.two h1 h2) ⟨by simp, fun l hl => by
    simp only [List.mem_cons, List.not_mem_nil, or_false] at hl
    rcases hl with rfl | rfl
    · exact ⟨digits_bok.1, by decide⟩
    · exact ⟨digits_bok.2, by decide⟩⟩
  have h4 : crc [[49, 50, 51, 52], [53, 54, 55, 56, 57]].flatten = 3421780262 := crc_19
  rw [h4] at h3
  simpa [bv] using h3
theorem kbytes (w1 : World) : BAt ((((w1.alloc (.cells #[.int .u8 49, .int .u8 50, .int .u8 51, .int .u8 52] 5 (4, 5))).alloc (.cells #[.int .u8 53, .int .u8 54, .int .u8 55, .int .u8 56, .int .u8 57] 5 (5, 6))).alloc (.cells #[.slice (some ⟨w1.heap.size, 0, none⟩) 4 4, .slice (some ⟨w1.heap.size + 1, 0, none⟩) 5 5] 32)).alloc (.cells #[.int .u8 0, .int .u8 0, .int .u8 0, .int .u8 0, .int .u8 33, .int .u8 68, .int .u8 223, .int .u8 28] 5)) (.slice (some ⟨w1.heap.size + 1 + 1 + 1, 0, none⟩) 8 8) [0, 0, 0, 0, 33, 68, 223, 28] := by
  have h := lit_at (((w1.alloc (.cells #[.int .u8 49, .int .u8 50, .int .u8 51, .int .u8 52] 5 (4, 5))).alloc (.cells #[.int .u8 53, .int .u8 54, .int .u8 55, .int .u8 56, .int .u8 57] 5 (5, 6))).alloc (.cells #[.slice (some ⟨w1.heap.size, 0, none⟩) 4 4, .slice (some ⟨w1.heap.size + 1, 0, none⟩) 5 5] 32)) [0, 0, 0, 0, 33, 68, 223, 28] (0, 0)
  simpa [bv] using h
end Go.Proofs.Ytklngdmpledgeaa.Fr

namespace Go.Proofs.Ytklngdmpledgeaa.Fr
open Go.RowKit

theorem make_at (w : World) (A : Option Addr) (m c q : Nat) (l : List Int) (h : BAt w (.slice A m c) l) (hb : bok l) (hm : m ≤ 1048568) (hq : q = m + 8) :
    Calls Try.prog 94 #[.slice A m c] w fun e w' => ∃ A' c', e = .returned (.tuple #[.slice A' q c', .int .i64 0]) ∧ BAt w' (.slice A' q c') (frF l) ∧ Below w.heap.size w w' := by
  have hl := h.len.1
  refine (make_any w _ l h hb (by omega)).mono fun e w' ⟨⟨A', c', h1, h2⟩, h3⟩ => ?_
  rw [hl, ← hq] at h1 h2
  exact ⟨A', c', h1, BAt.of_own h2, h3⟩
theorem open_at (w : World) (A : Option Addr) (q c m : Nat) (E : Int) (G B : List Int) (h : BAt w (.slice A q c) G) (hb : bok G) (hq : q ≤ 2000000) (hB : opB G = B) (hm : B.length = m) (hE : opE G = E) :
    Calls Try.prog 95 #[.slice A q c] w fun e w' => ∃ A' c', e = .returned (.tuple #[.slice A' m c', .int .i64 E]) ∧ BAt w' (.slice A' m c') B ∧ Below w.heap.size w w' := by
  have hl := h.len.1
  refine (open_any w _ G h hb (by omega)).mono fun e w' ⟨⟨A', c', h1, h2⟩, h3⟩ => ?_
  rw [hB, hE, hm] at h1
  rw [hB, hm] at h2
  exact ⟨A', c', h1, h2, h3⟩
theorem same_at (w : World) (u v : Value) (l : List Int) (hu : BAt w u l) (hv : BAt w v l) (q : Nat) (hl : l.length = q) (hn : q ≤ 2000000) :
    Calls Try.prog 32 #[u, v] w fun e w' => e = .returned (.bool true) ∧ Below w.heap.size w w' := same_eq w u v l hu hv (by omega)
/-- What is read of L, told by letters. -/
structure NxR (L B : List Int) (k N : Nat) (E : Int) : Prop where
  b : nxB L = B
  k : B.length = k
  n : nxN L = N
  e : nxE L = E
theorem NxR.fst {L B : List Int} {k N : Nat} {E : Int} (h : NxR L B k N E) {e : Ending} {w' : World} (hf : Fst L e w') : ∃ A c, e = .returned (.tuple #[.slice A k c, .int .i64 (N : Int), .int .i64 E]) ∧ BAt w' (.slice A k c) B := by
  obtain ⟨A, c, h1, h2⟩ := hf
  rw [h.b, h.k, h.n, h.e] at h1
  rw [h.b, h.k] at h2
  exact ⟨A, c, h1, h2⟩
theorem nx_some (L : List Int) : ∃ B k N E, NxR L B k N E := ⟨_, _, _, _, rfl, rfl, rfl, rfl⟩
theorem next_at (w : World) (v : Value) (L B : List Int) (k N : Nat) (E : Int) (h : BAt w v L) (hb : bok L) (hn : L.length ≤ 2000000) (hr : NxR L B k N E) :
    Calls Try.prog 132 #[v] w fun e w' => ∃ A c, e = .returned (.tuple #[.slice A k c, .int .i64 (N : Int), .int .i64 E]) ∧ BAt w' (.slice A k c) B ∧ Below w.heap.size w w' :=
  (next_any w v L h hb hn).mono fun e w' ⟨h1, h2⟩ => by
    obtain ⟨A, c, h3, h4⟩ := hr.fst h1
    exact ⟨A, c, h3, h4, h2⟩
theorem first_at (w : World) (v : Value) (L B : List Int) (k N : Nat) (E : Int) (h : BAt w v L) (hb : bok L) (hn : L.length ≤ 2000000) (hr : NxR L B k N E) :
    Calls Try.prog 161 #[v] w fun e w' => ∃ A c, e = .returned (.tuple #[.slice A k c, .int .i64 (N : Int), .int .i64 E]) ∧ BAt w' (.slice A k c) B ∧ Below w.heap.size w w' :=
  (first_any w v L h hb hn).mono fun e w' ⟨h1, h2⟩ => by
    obtain ⟨A, c, h3, h4⟩ := hr.fst h1
    exact ⟨A, c, h3, h4, h2⟩
end Go.Proofs.Ytklngdmpledgeaa.Fr
