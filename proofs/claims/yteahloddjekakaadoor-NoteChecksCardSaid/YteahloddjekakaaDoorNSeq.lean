/-
  The contracts of slices.Equal over rows and of singleOf. Conditions: at most a thousand rows.
-/
import Derived.Test.YteahloddjekakaaDoorNRow
import Derived.BigQuiet
namespace Go.Proofs.YteahloddjekakaaDoor.Nt
open Go.RowKit Td

theorem eq_step {l m : List Rw} {i : Nat} {x y : Rw} (h1 : l[i]? = some x) (h2 : m[i]? = some y) : decide (l.drop i = m.drop i) = ((x.1.toList == y.1.toList) && ((x.2 == y.2) && decide (l.drop (i + 1) = m.drop (i + 1)))) := by
  obtain ⟨k1, rfl⟩ := List.getElem?_eq_some_iff.1 h1
  obtain ⟨k2, rfl⟩ := List.getElem?_eq_some_iff.1 h2
  rw [List.drop_eq_getElem_cons k1, List.drop_eq_getElem_cons k2, beqS, Bool.eq_iff_iff]
  simp only [decide_eq_true_eq, List.cons.injEq, Prod.ext_iff, Bool.and_eq_true, beq_iff_eq, and_assoc]
theorem eq_end {l m : List Rw} {i : Nat} (h : l.length = m.length) (hi : l.length ≤ i) : decide (l.drop i = m.drop i) = true := by
  rw [List.drop_eq_nil_of_le hi, List.drop_eq_nil_of_le (by omega)]; rfl
theorem eq_len {l m : List Rw} (h : ¬ l.length = m.length) : decide (l = m) = false := decide_eq_false fun e => h (by rw [e])

set_option maxRecDepth 100000 in
set_option maxHeartbeats 4000000 in
theorem sEqual_any (w : World) (A B : Option Addr) (n c n' c' : Nat) (l m : List Rw) (hl : Hid (RR w A l)) (hn : Hid (n = l.length)) (hl' : Hid (RR w B m)) (hn' : Hid (n' = m.length)) (hm : n ≤ 1000) {r : Bool} (hr : Hid (r = decide (l = m))) :
    Calls Tryd.prog 55 #[.slice A n c, .slice B n' c'] w fun e w' => e = .returned (.bool r) ∧ Below w.heap.size w w' := by
  by_cases hnn : n = n'
  · subst hnn
    have hlen : l.length = m.length := by rw [← hn.out, ← hn'.out]
    go_enter Tryd.func55, Tryd.ntmps55
    go_wp2
    go_loopg [13] n (fun (gh : Nat) si wx => ∃ i : Nat, gh = n - i ∧ i ≤ n ∧ si = .int .i64 (i : Int) ∧ Hid (Below w.heap.size w wx) ∧ Hid (r = decide (l.drop i = m.drop i)))
    case atStart => exact ⟨0, by omega, by omega, rfl, Below.refl _ _, by show _ = _; rw [hr.out, List.drop_zero, List.drop_zero]⟩
    case round =>
      obtain ⟨i, rfl, hi, rfl, HB, HS⟩ := hrel
      by_cases hlt : i < n
      · have t1 : (i : Int) < (n : Int) := by omega
        have t2 : (0 : Int) ≤ (i : Int) := by omega
        obtain ⟨x, hx⟩ : ∃ x, l[i]? = some x := ⟨_, List.getElem?_eq_getElem (by rw [← hn.out]; exact hlt)⟩
        obtain ⟨y, hy⟩ : ∃ y, m[i]? = some y := ⟨_, List.getElem?_eq_getElem (by rw [← hn'.out]; exact hlt)⟩
        have hstep := eq_step hx hy
        obtain ⟨g, o, rfl, hg, cx, dx⟩ := (hl.out.below HB.out).at hx
        obtain ⟨g', o', rfl, hg', cy, dy⟩ := (hl'.out.below HB.out).at hy
        obtain ⟨b1, h1⟩ : ∃ b, (x.1.toList == y.1.toList) = b := ⟨_, rfl⟩
        obtain ⟨b2, h2⟩ : ∃ b, (x.2 == y.2) = b := ⟨_, rfl⟩
        rw [h1, h2] at hstep
        have HX : Hid (r = (b1 && (b2 && decide (l.drop (i + 1) = m.drop (i + 1))))) := by show _ = _; rw [HS.out, hstep]
        clear hstep hx hy HS hlen
        cases b1
        · obtain rfl : r = false := HX.out
          clear HX
          go_wp2
          go_quiet (fail)
          go_wp2
          go_ret
          exact ⟨rfl, Id.below_drewN HB.out _⟩
        · cases b2
          · obtain rfl : r = false := HX.out
            clear HX
            go_wp2
            go_quiet (fail)
            go_wp2
            go_ret
            exact ⟨rfl, Id.below_drewN HB.out _⟩
          · have HX' : Hid (r = decide (l.drop (i + 1) = m.drop (i + 1))) := HX
            clear HX
            go_wp2
            go_quiet (fail)
            go_wp2
            go_roundg (n - (i + 1))
            case measure => omega
            case rel => exact ⟨i + 1, rfl, by omega, by go_num, Id.below_drewN HB.out _, HX'⟩
      · have hq := eq_end (i := i) hlen (by rw [← hn.out]; omega)
        obtain rfl : r = true := by rw [HS.out, hq]
        clear hq hlen
        go_wp2
        go_ret
        exact ⟨rfl, HB.out⟩
  · obtain rfl : r = false := by rw [hr.out]; exact eq_len (by rw [← hn.out, ← hn'.out]; exact hnn)
    have t1 : ((n : Int) != (n' : Int)) = true := by simp; omega
    clear hn hn'
    go_enter Tryd.func55, Tryd.ntmps55
    go_wp2
    go_ret
    exact ⟨rfl, Below.refl _ _⟩
end Go.Proofs.YteahloddjekakaaDoor.Nt
