/-
  The contracts of Make and Bend. Conditions: at most two million bytes.
-/
import Derived.Test.YtnekjbdogdghnaaFMake
namespace Go.Proofs.Ytnekjbdogdghnaa.Fr
open Go.RowKit

theorem made_any (k : Nat) (hk : k ≤ 2000000) : ∃ M : Array Value, M.size = k * 1 ∧ ∀ W : World, (Instr.makeSlice 37 (.int .i64 0) (.int .i64 (k : Int))).run Try.prog W = .ok (.slice (some ⟨W.heap.size, 0, none⟩) 0 k) (W.alloc (.cells M 5)) := by
  obtain ⟨i0, hi0, hz0, hz1, hz2⟩ := info_parts u8Inf
  refine ⟨madeCells #[.int .u8 0] (k * 1), size_madeCells _ _, fun W => ?_⟩
  have h := run_make (P := Try.prog) W 37 5 i0 _ Try.underlying37 hi0 hz0 .i64 .i64 0 k (Int.le_refl _) (by omega) (by rw [hz2]; omega) (by omega)
  rw [hz1] at h
  exact h
theorem own_same {w w' : World} {base : Nat} {e : TypeId} {size n : Nat} {v : Value} {xs : List Value} (h : w.ownsRow base e size v n xs) (hb : Below w.heap.size w w') : w'.ownsRow base e size v n xs :=
  h.kept (row := none) ⟨hb.os, hb.tape, hb.output, hb.size, fun i hi _ => hb.block i hi⟩ (by
    rcases hv : v.ownBlock with _ | g
    · exact .inl rfl
    · exact .inr (by simp))
/-- What Make tells of bytes that may be framed. -/
def Mad (w : World) (l : List Int) (e : Ending) (w' : World) : Prop := ∃ A c, e = .returned (.tuple #[.slice A (l.length + 8) c, .int .i64 0]) ∧ w'.ownsRow w.heap.size 5 1 (.slice A (l.length + 8) c) (frF l).length (bv (frF l))
theorem bits_xor8 (a b : Int) (ha : 0 ≤ a ∧ a < 256) (hb : 0 ≤ b ∧ b < 256) : bits .xor .u8 a b = xb a b := by
  show IntKind.u8.wrap ((BitVec.ofInt 8 a ^^^ BitVec.ofInt 8 b).toNat : Int) = _
  have h1 := xb_bok ha hb
  have e1 : (BitVec.ofInt 8 a).toNat = a.toNat := by rw [BitVec.toNat_ofInt]; omega
  have e2 : (BitVec.ofInt 8 b).toNat = b.toNat := by rw [BitVec.toNat_ofInt]; omega
  rw [BitVec.toNat_xor, e1, e2, IntKind.wrap_u8]
  show xb a b % 256 = xb a b
  omega
/-- A cell of a row of the call's own is turned. -/
theorem own_set {w : World} {base g n cap : Nat} {l : List Int} (h : w.ownsRow base 5 1 (.slice (some ⟨g, 0, none⟩) n cap) l.length (bv l)) (i : Nat) (_hi : i < l.length) (x : Int) :
    (w.setCell ⟨g, i, none⟩ (.int .u8 x)).ownsRow base 5 1 (.slice (some ⟨g, 0, none⟩) n cap) l.length (bv (l.set i x)) := by
  rcases h.2 with ⟨h1, _⟩ | ⟨g2, cap2, cur, h1, hb, hg, hnc, hcm, hcs, htake⟩
  · cases h1
  · cases h1
    refine ⟨by rw [bv_len, List.length_set, Nat.mul_one], .inr ⟨g, cap, cur.setIfInBounds i (.int .u8 x), rfl, hb, ?_, hnc, hcm, by simpa using hcs, ?_⟩⟩
    · simp only [World.setCell, Array.getElem?_modify, if_true]; rw [hg]; rfl
    · rw [Array.toList_setIfInBounds, List.take_set, htake]
      simp [bv]
/-- What Bend tells. -/
def Bnd (w : World) (l : List Int) (a b : Int) (e : Ending) (w' : World) : Prop := ∃ A c, e = .returned (.slice A l.length c) ∧ w'.ownsRow w.heap.size 5 1 (.slice A l.length c) (bend l a b).length (bv (bend l a b))
set_option maxRecDepth 100000 in
set_option maxHeartbeats 4000000 in
theorem bend_any (w : World) (v : Value) (l : List Int) (a b : Int) (h : BAt w v l) (hk : bok l) (hn : l.length ≤ 2000000) (hb : 0 ≤ b ∧ b < 256) :
    Calls Try.prog 44 #[v, .int .i64 a, .int .u8 b] w fun e w' => Bnd w l a b e w' ∧ Below w.heap.size w w' := by
  have HC := Lib.hid (clone_any w v l h hn)
  obtain ⟨n, hnn⟩ : ∃ n, n = l.length := ⟨_, rfl⟩
  have HN := Lib.hid hnn
  by_cases hin : 0 ≤ a ∧ a < l.length
  · obtain ⟨i, hi⟩ : ∃ i : Nat, a = (i : Int) := ⟨a.toNat, by omega⟩
    subst hi
    have hil : i < n := by omega
    obtain ⟨x, hx⟩ : ∃ x, x = l.getD i 0 := ⟨_, rfl⟩
    obtain ⟨y, hy⟩ : ∃ y, y = xb x b := ⟨_, rfl⟩
    have hxb := bok_at hk (i := i) (by omega)
    rw [← hx] at hxb
    have hxx := bits_xor8 x b hxb hb
    rw [← hy] at hxx
    have HD : Hid (bend l (i : Int) b = l.set i y) := by
      show _ = _
      rw [hy, hx]; unfold bend; rw [if_pos hin]; simp
    have HX := Lib.hid hx
    have t1 : (0 : Int) ≤ (i : Int) := by omega
    have t2 : (i : Int) < (n : Int) := by omega
    clear h hk hnn hin hx hy hxb hb
    go_enter Try.func44, Try.ntmps44
    go_wp2_with (go_at_call 45; refine HC.out.mono ?_; rintro e w1 ⟨u, rfl, ho, hb1⟩
                 obtain ⟨g, c1, hu⟩ : ∃ g c, u = Value.slice (some ⟨g, 0, none⟩) n c := (by
                   rcases ho.2 with ⟨_, h2⟩ | ⟨g, c, cur, h2, _⟩
                   · have := HN.out; omega
                   · exact ⟨g, c, by rw [h2, HN.out]⟩)
                 subst hu
                 have hcc : w1.cell? ⟨g, i, none⟩ = some (.int .u8 x) := (by
                   have h3 := ho.cells (g := g) rfl i _ (bv_getD (l := l) (j := i) (by have := HN.out; omega))
                   rw [show (Addr.mk g 0 none).add i = ⟨g, 0 + i, none⟩ by unfold Addr.add; split <;> simp_all, Nat.zero_add, ← HX.out] at h3
                   exact h3)
                 have hff : w1.frozen? ⟨g, i, none⟩ = false := (by
                   rcases ho.2 with ⟨h2, _⟩ | ⟨g2, c, cur, h2, _, hg, _⟩
                   · cases h2
                   · cases h2; simp [World.frozen?, hg])
                 have HO := Lib.hid ho
                 have HB1 := Lib.hid hb1
                 have HG := Lib.hid (ho.lt g rfl)
                 clear ho hb1)
    go_ret
    refine ⟨⟨some ⟨g, 0, none⟩, c1, by rw [← HN.out]; rfl, ?_⟩, HB1.out.setCell (p := ⟨g, i, none⟩) HG.out.1 _⟩
    have h4 := own_set HO.out i (by have := HN.out; omega) y
    rw [HD.out, List.length_set, ← HN.out]
    rw [← HN.out] at h4
    exact h4
  · have HD : Hid (bend l a b = l) := bend_out hin
    have t1 : 0 ≤ a → ¬ a < (n : Int) := fun h0 h1 => hin ⟨h0, by omega⟩
    clear h hk hnn hb
    by_cases h0 : 0 ≤ a
    · have t2 := t1 h0
      clear t1 hin
      go_enter Try.func44, Try.ntmps44
      go_wp2_with (go_at_call 45; refine HC.out.mono ?_; rintro e w1 ⟨u, rfl, ho, hb1⟩
                   obtain ⟨A1, c1, hu⟩ : ∃ A c, u = Value.slice A n c := (by obtain ⟨A, c, h2, _⟩ := BAt.of_own ho; exact ⟨A, c, by rw [h2, HN.out]⟩)
                   subst hu
                   have HO := Lib.hid ho
                   have HB1 := Lib.hid hb1
                   clear ho hb1)
      go_ret
      refine ⟨⟨A1, c1, ?_, ?_⟩, HB1.out⟩
      · rw [← HN.out]; rfl
      · rw [HD.out, ← HN.out]; have := HO.out; rw [← HN.out] at this; exact this
    · clear t1 hin
      go_enter Try.func44, Try.ntmps44
      go_wp2_with (go_at_call 45; refine HC.out.mono ?_; rintro e w1 ⟨u, rfl, ho, hb1⟩
                   obtain ⟨A1, c1, hu⟩ : ∃ A c, u = Value.slice A n c := (by obtain ⟨A, c, h2, _⟩ := BAt.of_own ho; exact ⟨A, c, by rw [h2, HN.out]⟩)
                   subst hu
                   have HO := Lib.hid ho
                   have HB1 := Lib.hid hb1
                   clear ho hb1)
      go_ret
      refine ⟨⟨A1, c1, ?_, ?_⟩, HB1.out⟩
      · rw [← HN.out]; rfl
      · rw [HD.out, ← HN.out]; have := HO.out; rw [← HN.out] at this; exact this
end Go.Proofs.Ytnekjbdogdghnaa.Fr
