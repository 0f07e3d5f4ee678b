/-
  The references' table in memory, and the contracts of its place, Get and Put. Conditions: at most a thousand rows; a table of one's own.
-/
import Derived.Test.YtflhpijcfiamgaaTPutIi
import Derived.Test.YtflhpijcfiamgaaTGetIi
import Derived.Deep.RegionHeld3
namespace Go.Proofs.Ytflhpijcfiamgaa.Tb.Rf
open Go.RowKit
abbrev R := Int × Int
open Ii (cells cells_len cells_get cells_one cells_append cells_cons getL)

theorem rowI : (Try.prog.info? 53).map (fun i => (i.zero, i.size, i.bytes)) = some (some (.agg #[.int .i64 0, .int .i64 0]), 2, 16) := by kernel_rfl
def TabV (base : Nat) (w : World) (b : Nat) (v : Value) (rs : List R) : Prop := base ≤ b ∧ Boxed w b 30 v ∧ w.ownsRow base 53 2 v rs.length (cells rs)
theorem TabV.kept {base : Nat} {w w' : World} {b : Nat} {v : Value} {rs : List R} {S : Nat → Prop} (h : TabV base w b v rs) (hk : Kept S w w') (hb : ¬ S b) (hv : ∀ g, v.ownBlock = some g → ¬ S g) : TabV base w' b v rs := by
  obtain ⟨h1, h2, h3, h4⟩ := h
  refine ⟨h1, hk.heap h2 hb, h3, ?_⟩
  rcases h4 with h4 | ⟨g, cap, cur, rfl, hg, hh, h5⟩
  · exact .inl h4
  · exact .inr ⟨g, cap, cur, rfl, hg, hk.heap hh (hv g rfl), h5⟩
theorem TabV.below {base : Nat} {w w' : World} {b : Nat} {v : Value} {rs : List R} (h : TabV base w b v rs) (hb : Below w.heap.size w w') : TabV base w' b v rs :=
  h.kept (Kept.of_below (S := fun _ => False) hb) (fun h => h) (fun _ _ h => h)

set_option maxRecDepth 100000 in
set_option maxHeartbeats 4000000 in
theorem place_any (base : Nat) (w : World) (b : Nat) (v : Value) (l : List R) (k : Int) (hT : TabV base w b v l) (ha : asc l) (hn : l.length ≤ 1000) :
    Calls Try.prog 39 #[.pointer (some ⟨b, 0, none⟩), .int .i64 k] w fun e w' => e = .returned (.tuple #[.int .i64 (pl l k), .bool (hasB l k)]) ∧ Below w.heap.size w w' := by
  have HA := Lib.hid ha
  have HT := Lib.hid hT
  have c0 := hT.2.1.cell
  rcases Go.Joins.ownsRow_forms hT.2.2 with ⟨rfl, h0⟩ | ⟨g, cap, rfl⟩
  · have hl : l = [] := List.length_eq_zero_iff.1 h0
    subst hl
    clear hT ha h0
    go_enter Try.func39, Try.ntmps39
    go_wp2
    refine wp_loop_rounds 1 ?_
    rw [rounds_succ]
    go_wp2_with fail
    go_quiet (fail)
    go_wp2
    go_ret2
    exact ⟨rfl, below_drewN (Below.refl _ _) _⟩
  · clear hT ha
    have e0 : (0 : Int) ≤ (l.length : Int) := by omega
    go_enter Try.func39, Try.ntmps39
    go_wp2
    go_loopg [6] l.length (fun (gh : Nat) si wx => ∃ i : Nat, gh = l.length - i ∧ i ≤ pl l k ∧ si = .int .i64 (i : Int) ∧ wx = w)
    case atStart => exact ⟨0, rfl, Nat.zero_le _, rfl, rfl⟩
    case round =>
      obtain ⟨i, rfl, hi, rfl, rfl⟩ := hrel
      have hpl := pl_le l k
      by_cases hlt : i < l.length
      · obtain ⟨r, hr⟩ : ∃ r, l[i]? = some r := ⟨_, List.getElem?_eq_getElem hlt⟩
        have hcg := cells_get l i r hr
        have c1 : wr.cell? ⟨g, i * 2, none⟩ = some (.int .i64 r.1) := (HT.out.2.2.cellAt (i * 2) (by omega)).trans hcg.1
        have hiff := pl_iff l k HA.out i r hr
        rw [ltI, decide_eq_true_eq] at hiff
        have t1 : (i : Int) < (l.length : Int) := by omega
        have t2 : (0 : Int) ≤ (i : Int) := by omega
        by_cases hk : r.1 < k
        · have hip := hiff.1 hk
          clear hcg hr hiff
          go_wp2
          go_roundg (l.length - (i + 1))
          case measure => omega
          case rel => exact ⟨i + 1, rfl, hip, by go_num, rfl⟩
        · have hip : i = pl l k := by
            rcases Nat.lt_or_ge i (pl l k) with h | h
            · exact absurd (hiff.2 h) hk
            · omega
          have hhas : Hid (hasB l k = decide (r.1 = k)) := by
            show _ = _
            unfold hasB
            rw [← hip, hr]
          have HIP := Lib.hid hip
          obtain ⟨x, hx⟩ : ∃ x, x = r.1 := ⟨_, rfl⟩
          rw [← hx] at c1 hk hhas
          clear hcg hr hiff hip hx hi hpl
          by_cases he : x = k
          · have he' : (x == k) = true := by simpa using he
            have hb : Hid (hasB l k = true) := by show _ = _; rw [hhas.out]; exact decide_eq_true he
            clear hhas
            subst he
            go_wp2_with fail
            go_quiet (fail)
            go_wp2
            go_ret2
            rw [hb.out, ← HIP.out]
            exact ⟨rfl, below_drewN (Below.refl _ _) _⟩
          · have he' : (x == k) = false := by simpa using he
            have hb : Hid (hasB l k = false) := by show _ = _; rw [hhas.out]; exact decide_eq_false he
            clear hhas
            go_wp2_with fail
            go_quiet (fail)
            go_wp2
            go_ret2
            rw [hb.out, ← HIP.out]
            exact ⟨rfl, below_drewN (Below.refl _ _) _⟩
      · have hip : i = pl l k := by omega
        have hb : Hid (hasB l k = false) := by
          show _ = _
          unfold hasB
          rw [List.getElem?_eq_none (by omega)]
        have HIP := Lib.hid hip
        have t1 : decide ((i : Int) < (l.length : Int)) = false := decide_eq_false (by omega)
        have t2 : decide (i < l.length) = false := decide_eq_false (by omega)
        clear hip hi hpl
        go_wp2_with fail
        go_quiet (fail)
        go_wp2
        go_ret2
        rw [hb.out, ← HIP.out]
        exact ⟨rfl, below_drewN (Below.refl _ _) _⟩
set_option maxRecDepth 100000 in
set_option maxHeartbeats 1000000 in
theorem get_any (base : Nat) (w : World) (b : Nat) (v : Value) (l : List R) (k : Int) (hT : TabV base w b v l) (ha : asc l) (hn : l.length ≤ 1000) :
    Calls Try.prog 11 #[.pointer (some ⟨b, 0, none⟩), .int .i64 k] w fun e w' => e = .returned (.tuple #[.int .i64 (getL l k), .bool (hasB l k)]) ∧ Below w.heap.size w w' := by
  have hf := place_any base w b v l k hT ha hn
  have hlt := hT.2.1.lt
  cases hh : hasB l k
  · have hg := Ii.getL_not l k hh
    rw [hh] at hf
    have HF := Lib.hid hf
    have HG := Lib.hid hg
    clear hf hg hh ha hT
    go_enter Try.func11, Try.ntmps11
    go_wp2_with (go_at_call 39; refine HF.out.mono ?_; rintro e w' ⟨rfl, hb⟩)
    go_ret2
    rw [HG.out]
    exact ⟨rfl, hb⟩
  · have hg := Ii.getL_has l k hh
    have hpl := (has_lt l k hh).1
    rw [hh] at hf
    obtain ⟨g, cap, rfl⟩ := Go.Joins.ownsRow_form hT.2.2 (by omega)
    have hcg := cells_get l _ _ hg
    have HC : Hid (∀ W, Below w.heap.size w W → W.cell? ⟨b, 0, none⟩ = some (.slice (some ⟨g, 0, none⟩) l.length cap) ∧ W.cell? ⟨g, pl l k * 2 + 1, none⟩ = some (.int .i64 (getL l k))) := fun W hW =>
      ⟨((hT.below hW).2.1).cell, ((hT.below hW).2.2.cellAt (pl l k * 2 + 1) (by omega)).trans hcg.2⟩
    have HF := Lib.hid hf
    clear hf hg hh ha hT hcg
    go_enter Try.func11, Try.ntmps11
    go_wp2_with (go_at_call 39; refine HF.out.mono ?_; rintro e w' ⟨rfl, hb⟩; obtain ⟨c0, c1⟩ := HC.out _ hb)
    go_ret2
    exact ⟨rfl, hb⟩
end Go.Proofs.Ytflhpijcfiamgaa.Tb.Rf
