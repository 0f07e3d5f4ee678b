/-
  The reference's right, use, Used. Conditions: of Used: at most 1048576 bytes.
-/
import Derived.Test.YtffeinbbgfogoaaSRf
namespace Go.Proofs.Ytffeinbbgfogoaa.Sr
open Go.RowKit Fr

set_option maxRecDepth 100000 in
set_option maxHeartbeats 2000000 in
theorem right_any (w : World) (s : ByteArray) :
    Calls Try.prog 50 #[.string s] w fun e w' => e = .returned (.bool (okN s)) ∧ w = w' := by
  by_cases hz : s.size = 0
  · have hr : okN s = false := by unfold okN; rw [hz]; rfl
    rw [hr]
    have h1 : (s.size : Int) < 1 := by omega
    clear hr
    go_enter Try.func50, Try.ntmps50
    go_wp2
    go_ret
    exact ⟨rfl, rfl⟩
  · have h1 : ¬ (s.size : Int) < 1 := by omega
    by_cases h12 : s.size ≤ 12
    · have h12a : ¬ (12 : Int) < (s.size : Int) := by omega
      have hsz : Hid (okN s = (sb s).all okC) := by
        show _ = _
        unfold okN
        rw [show decide (0 < s.size) = true by simp; omega, show decide (s.size ≤ 12) = true by simp; omega]; rfl
      clear hz
      go_enter Try.func50, Try.ntmps50
      go_wp2
      go_loopg [3] s.size (fun (g : Nat) si wx => w = wx ∧ ∃ k : Nat, g = s.size - k ∧ k ≤ s.size ∧ si = .int .i64 (k : Int) ∧ Hid (∀ i, i < k → okC ((sb s).getD i 0) = true))
      case atStart => exact ⟨rfl, 0, rfl, Nat.zero_le _, rfl, fun i hi => by omega⟩
      case round =>
        obtain ⟨rfl, k, rfl, hk, rfl, hall⟩ := hrel
        by_cases hlt : k < s.size
        · obtain ⟨d, hd⟩ : ∃ d, d = (sb s).getD k 0 := ⟨_, rfl⟩
          have hget := sb_get s k hlt
          have hr := sb_range s k
          rw [← hd] at hget hr
          obtain ⟨r0, r1⟩ := hr
          have HD := Lib.hid hd
          clear hd
          by_cases g0 : d = 46
          · have HO : Hid (okC ((sb s).getD k 0) = true) := by show _ = _; rw [← HD.out, okC_of]; exact .inl g0
            have g1 : (d != 46) = false := by simp [g0]
            clear g0
            go_wp2
            go_roundg (s.size - (k + 1))
            case measure => omega
            case rel => exact ⟨rfl, k + 1, rfl, by omega, by go_num, all_snoc hall.out HO.out⟩
          · have g1 : (d != 46) = true := by simpa using g0
            by_cases g2 : d < 97
            · have HO : Hid (okN s = false) := by
                show _ = _
                rw [hsz.out]; refine all_not (k := k) (by rw [sb_len]; exact hlt) ?_
                rw [← HD.out]
                cases hq : okC d with
                | false => rfl
                | true => rcases okC_of.1 hq with h | h <;> omega
              go_wp2
              go_ret
              exact ⟨by rw [HO.out]; rfl, rfl⟩
            · by_cases g3 : 122 < d
              · have HO : Hid (okN s = false) := by
                  show _ = _
                  rw [hsz.out]; refine all_not (k := k) (by rw [sb_len]; exact hlt) ?_
                  rw [← HD.out]
                  cases hq : okC d with
                  | false => rfl
                  | true => rcases okC_of.1 hq with h | h <;> omega
                go_wp2
                go_ret
                exact ⟨by rw [HO.out]; rfl, rfl⟩
              · have HO : Hid (okC ((sb s).getD k 0) = true) := by show _ = _; rw [← HD.out, okC_of]; exact .inr ⟨by omega, by omega⟩
                go_wp2
                go_roundg (s.size - (k + 1))
                case measure => omega
                case rel => exact ⟨rfl, k + 1, rfl, by omega, by go_num, all_snoc hall.out HO.out⟩
        · obtain rfl : k = s.size := by omega
          have HR : Hid (okN s = true) := by
            show _ = _
            rw [hsz.out]; exact all_of (by rw [sb_len]; exact hall.out)
          have hx : decide ((s.size : Int) < (s.size : Int)) = false := by simp
          go_wp2
          go_ret
          exact ⟨by rw [HR.out]; rfl, rfl⟩
    · have hr : okN s = false := by unfold okN; simp [h12]
      rw [hr]
      have h12b : (12 : Int) < (s.size : Int) := by omega
      clear hr hz
      go_enter Try.func50, Try.ntmps50
      go_wp2
      go_ret
      exact ⟨rfl, rfl⟩

set_option maxRecDepth 100000 in
theorem ruse_no {w : World} {q : Nat} {x : RS} (h : RfR w q x) (hd : x.dn = true ∨ x.lf = 0) :
    Calls Try.prog 56 #[.pointer (some ⟨q, 0, none⟩)] w fun e w' => e = .returned (.bool false) ∧ Rm w w' q x { x with dn := true } := by
  have HR := Lib.hid h
  obtain ⟨⟨c0, c1, c2, c3⟩, f0, f1, f2, f3⟩ := rblk_cells h.blk
  have FIN : Hid (Rm w (w.setCell ⟨q, 3, none⟩ (.bool true)) q x { x with dn := true }) := by
    have := blk_set h.blk 3 (.bool true) (by simp)
    exact Rm.of_own (lf' := x.lf) (dn' := true) h this (grownBy_set _ _ _)
  have hlt := h.lt (.inl rfl)
  rcases hd with hd | hd
  · rw [hd] at c3
    clear h hd
    go_enter Try.func56, Try.ntmps56
    go_wp2
    go_ret
    exact ⟨rfl, FIN.out⟩
  · rw [hd] at c2
    obtain ⟨dd, hdd⟩ : ∃ dd, dd = x.dn := ⟨_, rfl⟩
    rw [← hdd] at c3
    clear h hd hdd
    cases dd
    · go_enter Try.func56, Try.ntmps56
      go_wp2
      go_ret
      exact ⟨rfl, FIN.out⟩
    · go_enter Try.func56, Try.ntmps56
      go_wp2
      go_ret
      exact ⟨rfl, FIN.out⟩
set_option maxRecDepth 100000 in
theorem ruse_yes {w : World} {q : Nat} {x : RS} (h : RfR w q x) (hd : x.dn = false) (h0 : x.lf ≠ 0) (h1 : -1 ≤ x.lf ∧ x.lf ≤ 9223372036854775807) :
    Calls Try.prog 56 #[.pointer (some ⟨q, 0, none⟩)] w fun e w' => e = .returned (.bool true) ∧ Rm w w' q x { x with lf := if 0 < x.lf then x.lf - 1 else x.lf } := by
  have HR := Lib.hid h
  obtain ⟨⟨c0, c1, c2, c3⟩, f0, f1, f2, f3⟩ := rblk_cells h.blk
  have FIN : Hid (Rm w (w.setCell ⟨q, 2, none⟩ (.int .i64 (x.lf - 1))) q x { x with lf := x.lf - 1 }) := by
    have := blk_set h.blk 2 (.int .i64 (x.lf - 1)) (by simp)
    exact Rm.of_own (lf' := x.lf - 1) (dn' := x.dn) h this (grownBy_set _ _ _)
  have hlt := h.lt (.inl rfl)
  rw [hd] at c3
  by_cases hp : 0 < x.lf
  · rw [if_pos hp]
    obtain ⟨l, hl⟩ : ∃ l, l = x.lf := ⟨_, rfl⟩
    rw [← hl] at c2 FIN h0 h1 hp ⊢
    have e0 : (l == 0) = false := by simpa using h0
    have e1 : IntKind.i64.wrap (l - 1) = l - 1 := by rw [IntKind.wrap_i64]; omega
    clear h hd hl
    go_enter Try.func56, Try.ntmps56
    go_wp2
    go_ret
    exact ⟨rfl, FIN.out⟩
  · rw [if_neg hp]
    obtain ⟨l, hl⟩ : ∃ l, l = x.lf := ⟨_, rfl⟩
    rw [← hl] at c2 h0 h1 hp
    have e0 : (l == 0) = false := by simpa using h0
    clear h hd hl FIN
    go_enter Try.func56, Try.ntmps56
    go_wp2
    go_ret
    exact ⟨rfl, Rm.refl HR.out⟩
theorem used_app (L M : List Fi) : usedL (L ++ M) = usedL L + usedL M := by
  induction L with
  | nil => simp [usedL]
  | cons y r ih => rw [List.cons_append, used_cons, used_cons, ih]; omega
set_option maxRecDepth 100000 in
set_option maxHeartbeats 1000000 in
theorem rused_any {w : World} {q : Nat} {x : RS} (h : RfR w q x) (hu : usedL x.D ≤ 1048576) :
    Calls Try.prog 51 #[.pointer (some ⟨q, 0, none⟩)] w fun e w' => e = .returned (.int .i64 (usedL x.D : Nat)) ∧ w = w' := by
  obtain ⟨⟨c0, _⟩, _⟩ := rblk_cells h.blk
  have HR := Lib.hid h.row
  have HB := Lib.hid h.bts
  have hn := h.few
  clear h
  obtain ⟨sv, D, rm, lf, dn⟩ := x
  dsimp only at HR HB c0 hn hu ⊢
  rcases Go.Joins.ownsRow_forms HR.out with ⟨rfl, h0⟩ | ⟨g, cap, rfl⟩
  · have hl : D = [] := List.length_eq_zero_iff.1 h0
    subst hl
    clear h0 HR HB
    go_enter Try.func51, Try.ntmps51
    go_wp2
    refine wp_loop_rounds 1 ?_
    rw [rounds_succ]
    go_wp2
    go_ret
    exact ⟨rfl, rfl⟩
  · go_enter Try.func51, Try.ntmps51
    go_wp2
    go_loopg [3, 4] D.length (fun (gh : Nat) sn si wx => ∃ i : Nat, gh = D.length - i ∧ i ≤ D.length ∧ sn = .int .i64 (usedL (D.take i) : Nat) ∧ si = .int .i64 (i : Int) ∧ wx = w)
    case atStart => exact ⟨0, rfl, Nat.zero_le _, rfl, rfl, rfl⟩
    case round =>
      obtain ⟨i, rfl, hi, rfl, rfl, rfl⟩ := hrel
      by_cases hlt : i < D.length
      · obtain ⟨y, hy⟩ : ∃ y, D[i]? = some y := ⟨_, List.getElem?_eq_getElem hlt⟩
        have hcg := (fc_get D i y hy).2
        have c1 : wr.cell? ⟨g, i * 2 + 1, none⟩ = some y.2.1 := (HR.out.cellAt (i * 2 + 1) (by omega)).trans hcg
        obtain ⟨A, c, hA, _⟩ := HB.out y (List.mem_of_getElem? hy)
        rw [hA] at c1
        have t1 : (i : Int) < (D.length : Int) := by omega
        have t2 : (0 : Int) ≤ (i : Int) := by omega
        have hst : usedL (D.take (i + 1)) = usedL (D.take i) + y.2.2.length := by
          rw [List.take_succ_eq_append_getElem hlt, (List.getElem?_eq_some_iff.1 hy).2, used_app]; simp [usedL]
        have hle : usedL (D.take (i + 1)) ≤ usedL D := by
          have := used_app (D.take (i + 1)) (D.drop (i + 1))
          rw [List.take_append_drop] at this; omega
        have HST := Lib.hid hst
        obtain ⟨a, ha⟩ : ∃ a, a = usedL (D.take i) := ⟨_, rfl⟩
        obtain ⟨b, hb⟩ : ∃ b, b = y.2.2.length := ⟨_, rfl⟩
        rw [← hb] at c1 HST hst
        rw [← ha] at HST hst ⊢
        have b1 : IntKind.i64.wrap ((a : Int) + (b : Int)) = (a : Int) + (b : Int) := by rw [IntKind.wrap_i64]; omega
        clear hcg hy hA hst hle ha hb
        go_wp2
        go_roundg (D.length - (i + 1))
        case measure => omega
        case rel => exact ⟨i + 1, rfl, by omega, by rw [HST.out]; go_num, by go_num, rfl⟩
      · obtain rfl : i = D.length := by omega
        rw [List.take_of_length_le (Nat.le_refl _)]
        go_wp2
        go_ret
        exact ⟨rfl, rfl⟩
end Go.Proofs.Ytffeinbbgfogoaa.Sr
