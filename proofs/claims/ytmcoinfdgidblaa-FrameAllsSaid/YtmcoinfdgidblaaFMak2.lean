/-
  The contracts of Make and Bend. Conditions: at most two million bytes.
-/
import Derived.Test.YtmcoinfdgidblaaFMake
namespace Go.Proofs.Ytmcoinfdgidblaa.Fr
open Go.RowKit

theorem made_any (k : Nat) (hk : k ≤ 2000000) : ∃ M : Array Value, M.size = k * 1 ∧ ∀ W : World, (Instr.makeSlice 23 (.int .i64 0) (.int .i64 (k : Int))).run Try.prog W = .ok (.slice (some ⟨W.heap.size, 0, none⟩) 0 k) (W.alloc (.cells M 5)) := by
  obtain ⟨i0, hi0, hz0, hz1, hz2⟩ := info_parts u8Inf
  refine ⟨madeCells #[.int .u8 0] (k * 1), size_madeCells _ _, fun W => ?_⟩
  have h := run_make (P := Try.prog) W 23 5 i0 _ Try.underlying23 hi0 hz0 .i64 .i64 0 k (Int.le_refl _) (by omega) (by rw [hz2]; omega) (by omega)
  rw [hz1] at h
  exact h
theorem own_same {w w' : World} {base : Nat} {e : TypeId} {size n : Nat} {v : Value} {xs : List Value} (h : w.ownsRow base e size v n xs) (hb : Below w.heap.size w w') : w'.ownsRow base e size v n xs :=
  h.kept (row := none) ⟨hb.os, hb.tape, hb.output, hb.size, fun i hi _ => hb.block i hi⟩ (by
    rcases hv : v.ownBlock with _ | g
    · exact .inl rfl
    · exact .inr (by simp))
/-- What Make tells of bytes that may be framed. -/
def Mad (w : World) (l : List Int) (e : Ending) (w' : World) : Prop := ∃ A c, e = .returned (.tuple #[.slice A (l.length + 8) c, .int .i64 0]) ∧ w'.ownsRow w.heap.size 5 1 (.slice A (l.length + 8) c) (frF l).length (bv (frF l))
set_option maxRecDepth 100000 in
theorem make_long (w : World) (A : Option Addr) (n cap : Nat) (hn : 1048568 < n) :
    Calls Try.prog 8 #[.slice A n cap] w fun e w' => e = .returned (.tuple #[.slice none 0 0, .int .i64 2]) ∧ w = w' := by
  have t1 : (1048568 : Int) < (n : Int) := by omega
  go_enter Try.func8, Try.ntmps8
  go_wp2
  go_ret2
  exact ⟨rfl, rfl⟩
set_option maxRecDepth 100000 in
set_option maxHeartbeats 4000000 in
theorem make_any (w : World) (v : Value) (l : List Int) (h : BAt w v l) (hb : bok l) (hn : l.length ≤ 1048568) : Calls Try.prog 8 #[v] w fun e w' => Mad w l e w' ∧ Below w.heap.size w w' := by
  have H := Lib.hid h
  obtain ⟨A, cap, rfl, hcap, _⟩ := h
  obtain ⟨n, hnn⟩ : ∃ n, n = l.length := ⟨_, rfl⟩
  rw [← hnn] at H hn hcap ⊢
  obtain ⟨k, hk⟩ : ∃ k, k = n + 8 := ⟨_, rfl⟩
  obtain ⟨q, hq⟩ : ∃ q, q = n + 4 := ⟨_, rfl⟩
  obtain ⟨M, hM, hmk⟩ := made_any k (by omega)
  obtain ⟨c, hc⟩ : ∃ c, c = crc (hd l) := ⟨_, rfl⟩
  have hc2 : c < 4294967296 := by rw [hc]; exact crc_lt _
  have t1 : ¬ (1048568 : Int) < (n : Int) := by omega
  have e1 : (n : Int) + 8 = (k : Int) := by omega
  have e2 : IntKind.u32.wrap (n : Int) = (n : Int) := by rw [IntKind.wrap_u32]; omega
  have HL : Hid (n = l.length ∧ k = n + 8 ∧ q = n + 4 ∧ c = crc (hd l)) := ⟨hnn, hk, hq, hc⟩
  have HB := Lib.hid hb
  have HO0 : Hid ((w.alloc (.cells M 5)).ownsRow w.heap.size 5 1 (.slice (some ⟨w.heap.size, 0, none⟩) 0 k) 0 []) := World.ownsRow_made w M k (Nat.le_refl _) (by unfold maxLen; omega) hM
  have HP : Hid (Calls Try.prog 21 #[.slice (some ⟨w.heap.size, 0, none⟩) 0 k, .int .u32 (n : Int)] (w.alloc (.cells M 5)) fun e w' => ∃ A c, e = .returned (.slice A 4 c) ∧ w'.ownsRow w.heap.size 5 1 (.slice A 4 c) (num4 n).length (bv (num4 n)) ∧ Below w.heap.size w w') := by
    have h1 := put_own (w.alloc (.cells M 5)) w.heap.size _ [] n HO0.out (by simp) (by decide) (by omega)
    exact h1.mono fun e w' ⟨A, c, h2, h3, h4⟩ => ⟨A, c, h2, h3, ((Below.refl _ w).alloc (Nat.le_refl _) _).trans h4⟩
  have hk2 : k ≤ 1048576 := by omega
  have hq2 : q ≤ 1048572 := by omega
  clear hnn hk hq hc hb hM
  go_enter Try.func8, Try.ntmps8
  go_wp2_with (first
    | (go_at_call 21; (with_reducible refine (HP2.out).mono ?_); rintro e w5 ⟨A5, c5, rfl, ho5, hb5⟩
       have HO5 := Lib.hid ho5
       have HB5 := Lib.hid (HB3.out.trans hb5)
       clear ho5 hb5)
    | (go_at_call 11; (with_reducible refine (HS.out).mono ?_); rintro e w4 ⟨rfl, rfl⟩)
    | (at_builtin; refine Lib.wpList_append_run _ rfl _ _ 23 23 rfl _ _ rfl rfl _ _ HR.out ?_)
    | (go_at_call 21; refine HP.out.mono ?_; rintro e w2 ⟨A2, c2, rfl, ho2, hb2⟩
       have HB2 := Lib.hid hb2
       obtain ⟨A3, c3, w3, hr3, ho3, hg3⟩ := app_any w2 w.heap.size _ (num4 n) ho2 (.slice A n cap) l (H.out.kept HB2.out) (by rw [num4_len]; have := HL.out.1; omega) HB2.out.size
       have h3 : (num4 n).length + l.length = q := by rw [num4_len]; have := HL.out; omega
       rw [h3] at hr3 ho3
       have HR := Lib.hid hr3
       have HO3 : Hid (w3.ownsRow w.heap.size 5 1 (.slice A3 q c3) (hd l).length (bv (hd l))) := by unfold hd; rw [← HL.out.1]; exact ho3
       have HB3 : Hid (Below w.heap.size w w3) := HB2.out.grown hg3 HB2.out.size (fun j hj => (ho2.lt j hj).1)
       have HW3 : Hid (Below w3.heap.size w3 (w3.alloc (.cells #[.slice A3 q c3] 23))) := (Below.refl _ _).alloc (Nat.le_refl _) _
       have hbb : bok (hd l) := hd_bok HB.out
       have hln : (hd l).length ≤ 2000000 := by rw [hd_len, ← HL.out.1]; omega
       have HS : Hid (Calls Try.prog 11 #[.slice (some ⟨w3.heap.size, 0, none⟩) 1 1] (w3.alloc (.cells #[.slice A3 q c3] 23)) fun e w' => e = .returned (.int .u32 (c : Int)) ∧ (w3.alloc (.cells #[.slice A3 q c3] 23)) = w') := by
         have h4 := sum_any _ _ _ (PAt.one (BAt.of_own HO3.out)) (boks_one hbb hln)
         rw [List.flatten_cons, List.flatten_nil, List.append_nil, ← HL.out.2.2.2] at h4
         exact h4
       have HP2 : Hid (Calls Try.prog 21 #[.slice A3 q c3, .int .u32 (c : Int)] (w3.alloc (.cells #[.slice A3 q c3] 23)) fun e w' => ∃ A c, e = .returned (.slice A k c) ∧ w'.ownsRow w.heap.size 5 1 (.slice A k c) (frF l).length (bv (frF l)) ∧ Below w.heap.size w3 w') := by
         have h4 := put_own (w3.alloc (.cells #[.slice A3 q c3] 23)) w.heap.size _ (hd l) c (own_same HO3.out HW3.out) (Nat.le_trans HB3.out.size HW3.out.size) hln hc2
         rw [show (hd l).length + 4 = k by rw [hd_len]; have := HL.out; omega] at h4
         rw [HL.out.2.2.2] at h4 ⊢
         exact h4.mono fun e w' ⟨A, c, h5, h6, h7⟩ => ⟨A, c, h5, h6, (HW3.out.mono HB3.out.size).trans h7⟩
       clear ho2 hb2 hr3 ho3 hg3 hbb hln h3))
  go_ret2
  have hkl : l.length + 8 = k := by have := HL.out; omega
  refine ⟨⟨A5, c5, ?_, ?_⟩, HB5.out⟩
  · rw [hkl]; rfl
  · rw [hkl]; exact HO5.out

theorem bits_xor8 (a b : Int) (ha : 0 ≤ a ∧ a < 256) (hb : 0 ≤ b ∧ b < 256) : bits .xor .u8 a b = xb a b := by
  show IntKind.u8.wrap ((BitVec.ofInt 8 a ^^^ BitVec.ofInt 8 b).toNat : Int) = _
  have h1 := xb_bok ha hb
  have e1 : (BitVec.ofInt 8 a).toNat = a.toNat := by rw [BitVec.toNat_ofInt]; omega
  have e2 : (BitVec.ofInt 8 b).toNat = b.toNat := by rw [BitVec.toNat_ofInt]; omega
  rw [BitVec.toNat_xor, e1, e2, IntKind.wrap_u8]
  show xb a b % 256 = xb a b
  omega
/-- A cell of a row of the call's own is turned. -/
theorem own_set {w : World} {base g n cap : Nat} {l : List Int} (h : w.ownsRow base 5 1 (.slice (some ⟨g, 0, none⟩) n cap) l.length (bv l)) (i : Nat) (_hi : i < l.length) (x : Int) :
    (w.setCell ⟨g, i, none⟩ (.int .u8 x)).ownsRow base 5 1 (.slice (some ⟨g, 0, none⟩) n cap) l.length (bv (l.set i x)) := by
  rcases h.2 with ⟨h1, _⟩ | ⟨g2, cap2, cur, h1, hb, hg, hnc, hcm, hcs, htake⟩
  · cases h1
  · cases h1
    refine ⟨by rw [bv_len, List.length_set, Nat.mul_one], .inr ⟨g, cap, cur.setIfInBounds i (.int .u8 x), rfl, hb, ?_, hnc, hcm, by simpa using hcs, ?_⟩⟩
    · simp only [World.setCell, Array.getElem?_modify, if_true]; rw [hg]; rfl
    · rw [Array.toList_setIfInBounds, List.take_set, htake]
      simp [bv]
/-- What Bend tells. -/
def Bnd (w : World) (l : List Int) (a b : Int) (e : Ending) (w' : World) : Prop := ∃ A c, e = .returned (.slice A l.length c) ∧ w'.ownsRow w.heap.size 5 1 (.slice A l.length c) (bend l a b).length (bv (bend l a b))
set_option maxRecDepth 100000 in
set_option maxHeartbeats 4000000 in
theorem bend_any (w : World) (v : Value) (l : List Int) (a b : Int) (h : BAt w v l) (hk : bok l) (hn : l.length ≤ 2000000) (hb : 0 ≤ b ∧ b < 256) :
    Calls Try.prog 20 #[v, .int .i64 a, .int .u8 b] w fun e w' => Bnd w l a b e w' ∧ Below w.heap.size w w' := by
  have HC := Lib.hid (clone_any w v l h hn)
  obtain ⟨n, hnn⟩ : ∃ n, n = l.length := ⟨_, rfl⟩
  have HN := Lib.hid hnn
  by_cases hin : 0 ≤ a ∧ a < l.length
  · obtain ⟨i, hi⟩ : ∃ i : Nat, a = (i : Int) := ⟨a.toNat, by omega⟩
    subst hi
    have hil : i < n := by omega
    obtain ⟨x, hx⟩ : ∃ x, x = l.getD i 0 := ⟨_, rfl⟩
    obtain ⟨y, hy⟩ : ∃ y, y = xb x b := ⟨_, rfl⟩
    have hxb := bok_at hk (i := i) (by omega)
    rw [← hx] at hxb
    have hxx := bits_xor8 x b hxb hb
    rw [← hy] at hxx
    have HD : Hid (bend l (i : Int) b = l.set i y) := by
      show _ = _
      rw [hy, hx]; unfold bend; rw [if_pos hin]; simp
    have HX := Lib.hid hx
    have t1 : (0 : Int) ≤ (i : Int) := by omega
    have t2 : (i : Int) < (n : Int) := by omega
    clear h hk hnn hin hx hy hxb hb
    go_enter Try.func20, Try.ntmps20
    go_wp2_with (go_at_call 25; refine HC.out.mono ?_; rintro e w1 ⟨u, rfl, ho, hb1⟩
                 obtain ⟨g, c1, hu⟩ : ∃ g c, u = Value.slice (some ⟨g, 0, none⟩) n c := (by
                   rcases ho.2 with ⟨_, h2⟩ | ⟨g, c, cur, h2, _⟩
                   · have := HN.out; omega
                   · exact ⟨g, c, by rw [h2, HN.out]⟩)
                 subst hu
                 have hcc : w1.cell? ⟨g, i, none⟩ = some (.int .u8 x) := (by
                   have h3 := ho.cells (g := g) rfl i _ (bv_getD (l := l) (j := i) (by have := HN.out; omega))
                   rw [show (Addr.mk g 0 none).add i = ⟨g, 0 + i, none⟩ by unfold Addr.add; split <;> simp_all, Nat.zero_add, ← HX.out] at h3
                   exact h3)
                 have hff : w1.frozen? ⟨g, i, none⟩ = false := (by
                   rcases ho.2 with ⟨h2, _⟩ | ⟨g2, c, cur, h2, _, hg, _⟩
                   · cases h2
                   · cases h2; simp [World.frozen?, hg])
                 have HO := Lib.hid ho
                 have HB1 := Lib.hid hb1
                 have HG := Lib.hid (ho.lt g rfl)
                 clear ho hb1)
    go_ret
    refine ⟨⟨some ⟨g, 0, none⟩, c1, by rw [← HN.out]; rfl, ?_⟩, HB1.out.setCell (p := ⟨g, i, none⟩) HG.out.1 _⟩
    have h4 := own_set HO.out i (by have := HN.out; omega) y
    rw [HD.out, List.length_set, ← HN.out]
    rw [← HN.out] at h4
    exact h4
  · have HD : Hid (bend l a b = l) := bend_out hin
    have t1 : 0 ≤ a → ¬ a < (n : Int) := fun h0 h1 => hin ⟨h0, by omega⟩
    clear h hk hnn hb
    by_cases h0 : 0 ≤ a
    · have t2 := t1 h0
      clear t1 hin
      go_enter Try.func20, Try.ntmps20
      go_wp2_with (go_at_call 25; refine HC.out.mono ?_; rintro e w1 ⟨u, rfl, ho, hb1⟩
                   obtain ⟨A1, c1, hu⟩ : ∃ A c, u = Value.slice A n c := (by obtain ⟨A, c, h2, _⟩ := BAt.of_own ho; exact ⟨A, c, by rw [h2, HN.out]⟩)
                   subst hu
                   have HO := Lib.hid ho
                   have HB1 := Lib.hid hb1
                   clear ho hb1)
      go_ret
      refine ⟨⟨A1, c1, ?_, ?_⟩, HB1.out⟩
      · rw [← HN.out]; rfl
      · rw [HD.out, ← HN.out]; have := HO.out; rw [← HN.out] at this; exact this
    · clear t1 hin
      go_enter Try.func20, Try.ntmps20
      go_wp2_with (go_at_call 25; refine HC.out.mono ?_; rintro e w1 ⟨u, rfl, ho, hb1⟩
                   obtain ⟨A1, c1, hu⟩ : ∃ A c, u = Value.slice A n c := (by obtain ⟨A, c, h2, _⟩ := BAt.of_own ho; exact ⟨A, c, by rw [h2, HN.out]⟩)
                   subst hu
                   have HO := Lib.hid ho
                   have HB1 := Lib.hid hb1
                   clear ho hb1)
      go_ret
      refine ⟨⟨A1, c1, ?_, ?_⟩, HB1.out⟩
      · rw [← HN.out]; rfl
      · rw [HD.out, ← HN.out]; have := HO.out; rw [← HN.out] at this; exact this
end Go.Proofs.Ytmcoinfdgidblaa.Fr
