/-
  The contract of Sorted. Conditions: at most a thousand rows.
-/
import Derived.Test.YteahloddjekakaaDoorNRow
import Derived.BigQuiet
namespace Go.Proofs.YteahloddjekakaaDoor.Nt
open Go.RowKit Td

set_option maxRecDepth 100000 in
set_option maxHeartbeats 4000000 in
theorem sortedP (w : World) (A : Option Addr) (n c : Nat) (l : List Rw) (hl : Hid (RR w A l)) (hn : Hid (n = l.length)) (hm : n ≤ 1000) {r : Bool} (hr : Hid (r = srtB l)) :
    Calls Tryd.prog 15 #[.slice A n c] w fun e w' => e = .returned (.bool r) ∧ Below w.heap.size w w' := by
  go_enter Tryd.func15, Tryd.ntmps15
  go_wp2
  go_loopg [3] n (fun (gh : Nat) si wx => ∃ i : Nat, gh = n + 1 - i ∧ i ≤ n + 1 ∧ 1 ≤ i ∧ si = .int .i64 (i : Int) ∧ Hid (Below w.heap.size w wx) ∧ Hid (r = srtB (l.drop (i - 1))))
  case atStart => exact ⟨1, by omega, by omega, by omega, rfl, Below.refl _ _, hr⟩
  case round =>
    obtain ⟨i, rfl, hi, hi1, rfl, HB, HS⟩ := hrel
    by_cases hlt : i < n
    · have t1 : (i : Int) < (n : Int) := by omega
      have t2 : (0 : Int) ≤ (i : Int) := by omega
      have t3 : (0 : Int) ≤ (i : Int) - 1 := by omega
      have t4 : (i : Int) - 1 < (n : Int) := by omega
      obtain ⟨y, hy⟩ : ∃ y, l[i]? = some y := ⟨_, List.getElem?_eq_getElem (by rw [← hn.out]; exact hlt)⟩
      obtain ⟨x, hx⟩ : ∃ x, l[i - 1]? = some x := ⟨_, List.getElem?_eq_getElem (by rw [← hn.out]; omega)⟩
      have hstep := srt_step hx (show l[i - 1 + 1]? = some y by rw [show i - 1 + 1 = i by omega]; exact hy)
      rw [show i - 1 + 1 = i by omega] at hstep
      obtain ⟨g, o, rfl, hg, cy, _⟩ := (hl.out.below HB.out).at hy
      obtain ⟨g', o', e', _, cx, _⟩ := (hl.out.below HB.out).at hx
      cases e'
      obtain ⟨j, hj⟩ : ∃ j, j = i - 1 := ⟨_, rfl⟩
      rw [← hj] at cx
      have hji : (i : Int) - 1 = (j : Int) := by omega
      have hjn : (j : Int) < (n : Int) := by omega
      have hj0 : (0 : Int) ≤ (j : Int) := by omega
      have HX : Hid (r = (ltS x.1 y.1 && srtB (l.drop i))) := by show _ = _; rw [HS.out, hstep]
      clear hstep hx hy hj t3 t4 HS
      cases hq : ltS x.1 y.1
      · obtain rfl : r = false := by rw [HX.out, hq]; rfl
        clear HX
        cases q2 : Op.bytesLess y.1.toList x.1.toList
        · have q3 : (y.1.toList == x.1.toList) = true := by rw [beqS]; exact decide_eq_true (bytes_inj (bl_tri _ _ q2 hq))
          clear hq
          go_wp2
          go_quiet (fail)
          go_wp2
          go_ret
          exact ⟨rfl, (Id.below_drewN HB.out _)⟩
        · clear hq
          go_wp2
          go_quiet (fail)
          go_wp2
          go_ret
          exact ⟨rfl, (Id.below_drewN HB.out _)⟩
      · have HX' : Hid (r = srtB (l.drop i)) := by show _ = _; rw [HX.out, hq]; rfl
        clear HX
        have q2 : Op.bytesLess y.1.toList x.1.toList = false := by
          cases h : Op.bytesLess y.1.toList x.1.toList
          · rfl
          · have := bl_tr _ _ _ hq h
            rw [bl_irr] at this; cases this
        have q3 : (y.1.toList == x.1.toList) = false := by
          rw [beqS]; refine decide_eq_false fun e => ?_
          have h : Op.bytesLess x.1.toList y.1.toList = true := hq
          rw [e, bl_irr] at h; cases h
        clear hq
        go_wp2
        go_quiet (fail)
        go_wp2
        go_roundg (n + 1 - (i + 1))
        case measure => omega
        case rel => exact ⟨i + 1, rfl, by omega, by omega, by go_num, (Id.below_drewN HB.out _), HX'⟩
    · have hq : srtB (l.drop (i - 1)) = true := srt_end (by rw [← hn.out]; omega)
      obtain rfl : r = true := by rw [HS.out, hq]
      clear hq
      go_wp2
      go_ret
      exact ⟨rfl, HB.out⟩
end Go.Proofs.YteahloddjekakaaDoor.Nt
