/-
  The contract of the reference's Digit. Conditions: a text of at most 100000 bytes.
-/
import Derived.Maps.AppendAt
import Derived.OwnWalk
import Derived.Test.YtcidbmkmnlneiaaIIsin
namespace Go.Proofs.Ytcidbmkmnlneiaa.Id
open Go.RowKit

/-- What the reference's Digit tells. -/
def rdN (l : List Int) : Int := if headB l then chkD l else -1
theorem rd_no {l : List Int} (h : headB l = false) : rdN l = -1 := by unfold rdN; rw [h]; rfl
theorem rd_yes {l : List Int} (h : headB l = true) : rdN l = chkD l := by unfold rdN; rw [h]; rfl

theorem info_int : (Try.prog.info? 3).map (fun i => (i.zero, i.size, i.bytes)) = some (some (.int .i64 0), 1, 8) := by kernel_rfl
def ints (l : List Int) : List Value := l.map (Value.int .i64)
theorem cell_two_new (w : World) (a b : Value) (t : TypeId) : ∀ (j : Nat) (u : Value), [a, b][j]? = some u → (w.alloc (.cells #[a, b] t)).cell? ((⟨w.heap.size, 0, none⟩ : Addr).add j) = some u := by
  intro j u hj
  match j, hj with
  | 0, hj => simp at hj; subst hj; simp [Addr.add]
  | 1, hj => simp at hj; subst hj; simp [Addr.add]
  | j + 2, hj => simp at hj

theorem ok_of_parts {l : List Int} {k : Nat} {g q : Bool} (hg : g = grB (l.getD k 0)) (hq : q = dgB (l.getD k 0)) : okAt l k = (g || (decide (2 ≤ k) && q)) := by unfold okAt; rw [hg, hq]

theorem rowF_ge (l : List Int) : l.length ≤ (rowF l).length := by
  induction l with
  | nil => simp
  | cons a t ih =>
    have e : rowF (a :: t) = digs1 a ++ rowF t := by simp [rowF]
    have h1 : 1 ≤ (digs1 a).length := by unfold digs1; split <;> simp
    rw [e, List.length_append, List.length_cons]
    omega
theorem par_ev (n k : Nat) (h : k < n) : (((n : Int) - (k : Int)) % 2 == 1) = ev (n - (k + 1)) := by
  unfold ev
  rw [Bool.eq_iff_iff]
  simp
  omega
theorem getD_digit {L : List Int} (h : ∀ d ∈ L, 0 ≤ d ∧ d ≤ 9) (k : Nat) (hk : k < L.length) : 0 ≤ L.getD k 0 ∧ L.getD k 0 ≤ 9 := by
  rw [List.getD_eq_getElem?_getD, List.getElem?_eq_getElem hk]
  exact h _ (List.getElem_mem hk)
theorem ints_get (L : List Int) (k : Nat) (hk : k < L.length) : (ints L)[k]? = some (.int .i64 (L.getD k 0)) := by
  rw [List.getD_eq_getElem?_getD, ints, List.getElem?_map, List.getElem?_eq_getElem hk]
  rfl

set_option maxRecDepth 100000 in
set_option maxHeartbeats 4000000 in
theorem refDigit_any (w : World) (s : ByteArray) (hs : s.size ≤ 100000) :
    Calls Try.prog 10 #[.string s] w fun e w' => e = .returned (.int .i64 (rdN (sb s))) ∧ Below w.heap.size w w' := by
  by_cases h11 : s.size = 11
  · have H11 := Lib.hid h11
    have h11a : s.size ≤ 11 := by omega
    have h11b : 11 ≤ s.size := by omega
    have n11 : ((s.size : Int) != 11) = false := by simp; omega
    clear h11
    obtain ⟨i0, hi, hz0, hz1, hz2⟩ := info_parts info_int
    go_enter Try.func10, Try.ntmps10
    go_wp2
    go_loopg [3, 4] 11 (fun (g : Nat) sv si wx => ∃ k : Nat, g = 11 - k ∧ k ≤ 11 ∧ si = .int .i64 (k : Int) ∧ Hid ((∀ i, i < k → okAt (sb s) i = true) ∧ wx.ownsRow w.heap.size 3 1 sv (rowF ((sb s).take k)).length (ints (rowF ((sb s).take k))) ∧ Below w.heap.size w wx))
    case atStart => exact ⟨0, rfl, Nat.zero_le _, rfl, fun i hi => by omega, World.ownsRow_nil _ _ _ _, Below.refl _ _⟩
    case round =>
      obtain ⟨k, rfl, hk, rfl, hinv⟩ := hrel
      by_cases hlt : k < 11
      · have hls : k < s.size := by omega
        obtain ⟨d, hd⟩ : ∃ d, d = (sb s).getD k 0 := ⟨_, rfl⟩
        have hget := sb_get s k hls
        rw [← hd] at hget
        have hr := sb_range s k
        rw [← hd] at hr
        obtain ⟨r0, r1⟩ := hr
        obtain ⟨g, hg⟩ : ∃ g, g = grB d := ⟨_, rfl⟩
        obtain ⟨q, hq⟩ : ∃ q, q = dgB d := ⟨_, rfl⟩
        have cg : ∀ w, Calls Try.prog 25 #[.int .u8 d, .int .u8 65] w fun e w' => e = .returned (.bool g) ∧ w = w' := fun w => by
          rw [hg]; exact letter_great d w r0 r1
        have cq : ∀ w, Calls Try.prog 26 #[.int .u8 d] w fun e w' => e = .returned (.bool q) ∧ w = w' := fun w => by
          rw [hq]; exact digit_any d w r0 r1
        have CG := Lib.hid cg
        have CQ := Lib.hid cq
        have HG := Lib.hid hg
        have HQ := Lib.hid hq
        have HD := Lib.hid hd
        have hok : Hid (okAt (sb s) k = (g || (decide (2 ≤ k) && q))) := ok_of_parts (by rw [← hd]; exact hg) (by rw [← hd]; exact hq)
        have hlen : (rowF ((sb s).take k)).length ≤ 22 := by
          have := rowF_len ((sb s).take k)
          have : ((sb s).take k).length ≤ k := List.length_take_le _ _
          omega
        have hrow : Hid (rowF ((sb s).take (k + 1)) = rowF ((sb s).take k) ++ digs1 d) := by
          show _ = _
          rw [rowF_take (by rw [sb_len]; exact hls), ← hd]
        clear cg cq hg hq hd
        obtain ⟨v, hv⟩ : ∃ v, u3 = v := ⟨_, rfl⟩
        subst hv
        have hok2 := hinv.out.1
        have hrw := hinv.out.2.1
        have hbw := hinv.out.2.2
        have hsw := hbw.size
        have HOK2 := Lib.hid hok2
        clear hok2
        obtain ⟨n, hn⟩ : ∃ n, n = (rowF ((sb s).take k)).length := ⟨_, rfl⟩
        rw [← hn] at hrw hlen
        have HN := Lib.hid hn
        have HRW := Lib.hid hrw
        have HBW := Lib.hid hbw
        clear hn hrw hbw
        have hnext : Hid ((g = true ∨ (2 ≤ k ∧ q = true)) → ∀ i, i < k + 1 → okAt (sb s) i = true) := by
          intro e i hi
          rcases Nat.lt_or_ge i k with h | h
          · exact HOK2.out i h
          · have : i = k := by omega
            subst this
            rw [hok.out]
            rcases e with e | ⟨e1, e2⟩
            · rw [e]; rfl
            · rw [e2, decide_eq_true e1]; simp
        have hbad : Hid (g = false → (k < 2 ∨ q = false) → rdN (sb s) = -1) := by
          intro e1 e2
          refine rd_no (head_no_at (k := k) hlt ?_)
          rw [hok.out, e1]
          rcases e2 with e2 | e2
          · rw [decide_eq_false (by omega)]; rfl
          · rw [e2]; simp
        cases g
        · cases q
          · go_wp2_with (first | (go_at_call 25; refine (CG.out _).mono ?_; rintro e w' ⟨rfl, rfl⟩) | (go_at_call 26; refine (CQ.out _).mono ?_; rintro e w' ⟨rfl, rfl⟩))
            go_ret
            exact ⟨ret_int (hbad.out (by trivial) (.inr (by trivial))).symm, HBW.out⟩
          · by_cases h2 : k < 2
            · go_wp2_with (first | (go_at_call 25; refine (CG.out _).mono ?_; rintro e w' ⟨rfl, rfl⟩) | (go_at_call 26; refine (CQ.out _).mono ?_; rintro e w' ⟨rfl, rfl⟩))
              go_ret
              exact ⟨ret_int (hbad.out (by trivial) (.inl h2)).symm, HBW.out⟩
            · have h2' : 2 ≤ k := by omega
              have hqr := (dgB_iff d).1 HQ.out.symm
              obtain ⟨g0, g1⟩ := hqr
              have hdig : Hid (digs1 d = [d - 48]) := digs1_digit HQ.out.symm
              go_wp2_with (first
                | (go_at_call 25; refine (CG.out _).mono ?_; rintro e w' ⟨rfl, rfl⟩) | (go_at_call 26; refine (CQ.out _).mono ?_; rintro e w' ⟨rfl, rfl⟩)
                | (at_builtin; refine wpList_append_own _ rfl _ _ 44 rfl w.heap.size 3 i0 (.int .i64 0) 1 8 Try.underlying44 hi hz0 hz1 hz2 rfl (by decide) _ _ _ rfl (HRW.out.alloc _) ⟨wr.heap.size, 0, none⟩ 1 1 [.int .i64 (d - 48)] rfl rfl (cell_one_new _ _ _) (by simp [Value.oneCell']) (by unfold maxLen; omega) (by omega) (by simp; omega) ?_; intro v' w2 hown' hgrow hnil))
              have hb2 : Below w.heap.size w w2 := (HBW.out.alloc hsw _).grown hgrow (by simp; omega) (fun j hj => (HRW.out.lt j hj).1)
              go_roundg (11 - (k + 1))
              case measure => omega
              case rel => exact ⟨k + 1, rfl, by omega, by go_num, hnext.out (.inr ⟨h2', by trivial⟩), by rw [hrow.out, hdig.out, List.length_append, ← HN.out]; simpa [ints] using hown', hb2⟩
        · have hgr := (grB_iff d).1 HG.out.symm
          obtain ⟨g0, g1⟩ := hgr
          have hdig : Hid (digs1 d = [(d - 55) / 10, (d - 55) % 10]) := by
            show _ = _
            have hn : numC d = d - 55 := by
              unfold numC
              rw [if_neg]
              intro h
              have := (dgB_iff d).1 h
              omega
            unfold digs1
            rw [hn, if_pos (by omega)]
          have e1 : 0 ≤ (d - 55) / 10 := by omega
          go_wp2_with (first
            | (go_at_call 25; refine (CG.out _).mono ?_; rintro e w' ⟨rfl, rfl⟩)
            | (at_builtin; refine wpList_append_own _ rfl _ _ 44 rfl w.heap.size 3 i0 (.int .i64 0) 1 8 Try.underlying44 hi hz0 hz1 hz2 rfl (by decide) _ _ _ rfl (HRW.out.alloc _) ⟨wr.heap.size, 0, none⟩ 2 2 [.int .i64 ((d - 55) / 10), .int .i64 ((d - 55) % 10)] rfl rfl (cell_two_new _ _ _ _) (by simp [Value.oneCell']) (by unfold maxLen; omega) (by omega) (by simp; omega) ?_; intro v' w2 hown' hgrow hnil))
          have hb2 : Below w.heap.size w w2 := (HBW.out.alloc hsw _).grown hgrow (by simp; omega) (fun j hj => (HRW.out.lt j hj).1)
          go_roundg (11 - (k + 1))
          case measure => omega
          case rel => exact ⟨k + 1, rfl, by omega, by go_num, hnext.out (.inl (by trivial)), by rw [hrow.out, hdig.out, List.length_append, ← HN.out]; simpa [ints] using hown', hb2⟩
      · obtain rfl : k = 11 := by omega
        have htk : (sb s).take 11 = sb s := List.take_of_length_le (by rw [sb_len, H11.out]; exact Nat.le_refl _)
        have hh : headB (sb s) = true := (headB_iff _).2 ⟨by rw [sb_len]; exact H11.out, hinv.out.1⟩
        have hown := hinv.out.2.1
        have hbw := hinv.out.2.2
        rw [htk] at hown
        obtain ⟨L, hL⟩ : ∃ L, L = rowF (sb s) := ⟨_, rfl⟩
        rw [← hL] at hown
        have hdig : ∀ d ∈ L, 0 ≤ d ∧ d ≤ 9 := by rw [hL]; exact rowF_digit (head_mem hh)
        have hll : L.length ≤ 22 := by
          have := rowF_len (sb s)
          rw [sb_len, H11.out, ← hL] at this
          exact this
        have hl0 : 0 < L.length := by
          have := rowF_ge (sb s)
          rw [sb_len, H11.out, ← hL] at this
          omega
        have hres : Hid (rdN (sb s) = (10 - RF L % 10) % 10) := by show _ = _; rw [rd_yes hh, hL]; rfl
        clear hL htk hh hinv
        rcases hown.2 with ⟨_, h0⟩ | ⟨g, cap, cur, rfl, _⟩
        · omega
        obtain ⟨n, hn⟩ : ∃ n, n = L.length := ⟨_, rfl⟩
        have HN := Lib.hid hn
        have hcell : Hid (∀ k, k < n → wr.cell? ⟨g, k, none⟩ = some (.int .i64 (L.getD k 0))) := fun k hk => by
          rw [hown.cellAt k (by omega), ints_get L k (by omega)]
        rw [← hn] at hll hl0 ⊢
        have HDG := Lib.hid hdig
        have HBW := Lib.hid hbw
        clear hown hn hdig hbw
        go_wp2
        go_loopg [6, 7] n (fun (gg : Nat) tv iv wx => wr = wx ∧ ∃ (k : Nat) (t : Int), gg = n - k ∧ k ≤ n ∧ iv = .int .i64 (k : Int) ∧ tv = .int .i64 t ∧ 0 ≤ t ∧ t ≤ 9 * (k : Int) ∧ Hid (t + RF (L.drop k) = RF L))
        case atStart => exact ⟨rfl, 0, 0, rfl, Nat.zero_le _, rfl, rfl, by omega, by omega, by show (0 : Int) + RF (L.drop 0) = RF L; simp⟩
        case round =>
          obtain ⟨rfl, k, t, rfl, hk, rfl, rfl, t0, t1, hsum⟩ := hrel
          by_cases hlt : k < n
          · obtain ⟨d, hd⟩ : ∃ d, d = L.getD k 0 := ⟨_, rfl⟩
            have hc := hcell.out k hlt
            have hdr := getD_digit HDG.out k (by rw [← HN.out]; exact hlt)
            have hpar := par_ev n k hlt
            have hstep : Hid (RF (L.drop k) = gD (ev (n - (k + 1))) d + RF (L.drop (k + 1))) := by
              show _ = _
              rw [RF_drop (by rw [← HN.out]; exact hlt), ← HN.out, ← hd]
            rw [← hd] at hc hdr
            obtain ⟨d0, d1⟩ := hdr
            obtain ⟨b, hb⟩ : ∃ b, b = ev (n - (k + 1)) := ⟨_, rfl⟩
            rw [← hb] at hpar hstep
            clear hd hb
            have hend : Hid (∀ u, u = gD b d → t + u + RF (L.drop (k + 1)) = RF L) := by
              rintro u rfl
              have := hsum.out
              rw [hstep.out] at this
              omega
            cases b
            · go_wp2
              go_roundg (n - (k + 1))
              case measure => omega
              case rel => exact ⟨rfl, k + 1, t + d, rfl, by omega, by go_num, rfl, by omega, by push_cast; omega, hend.out d (gD_plain d).symm⟩
            · by_cases h5 : 5 ≤ d
              · go_wp2
                go_roundg (n - (k + 1))
                case measure => omega
                case rel => exact ⟨rfl, k + 1, t + (2 * d - 9), rfl, by omega, by go_num, rfl, by omega, by push_cast; omega, hend.out _ (gD_big d h5 d1).symm⟩
              · go_wp2
                go_roundg (n - (k + 1))
                case measure => omega
                case rel => exact ⟨rfl, k + 1, t + 2 * d, rfl, by omega, by go_num, rfl, by omega, by push_cast; omega, hend.out _ (gD_small d d0 (by omega)).symm⟩
          · obtain rfl : k = n := by omega
            have hfin : Hid (t = RF L) := by
              have := hsum.out
              rw [List.drop_of_length_le (by rw [← HN.out]; exact Nat.le_refl _)] at this
              simp only [RF] at this
              show _ = _
              omega
            have t2 : t ≤ 198 := by omega
            clear hsum t1
            go_wp2
            go_loopg [9] 10 (fun (gg : Nat) cv wx => wr = wx ∧ ∃ (c : Nat), gg = 10 - c ∧ c ≤ 10 ∧ cv = .int .i64 (c : Int) ∧ Hid (∀ x : Int, 0 ≤ x → x < (c : Int) → (t + x) % 10 ≠ 0))
            case atStart => exact ⟨rfl, 0, rfl, by omega, rfl, fun x h0 h1 => by omega⟩
            case round =>
              obtain ⟨rfl, c, rfl, hc, rfl, hno⟩ := hrel
              by_cases hlt : c < 10
              · by_cases hz : (t + (c : Int)) % 10 = 0
                · have hz2 : ((t + (c : Int)) % 10 == 0) = true := by simpa using hz
                  have hret : Hid (rdN (sb s) = (c : Int)) := by
                    show _ = _
                    rw [hres.out, ← hfin.out]
                    omega
                  clear hz
                  go_wp2
                  go_ret
                  exact ⟨ret_int hret.out.symm, HBW.out⟩
                · have hz2 : ((t + (c : Int)) % 10 == 0) = false := by simpa using hz
                  have hnx : Hid (∀ x : Int, 0 ≤ x → x < ((c + 1 : Nat) : Int) → (t + x) % 10 ≠ 0) := fun x h0 h1 => by
                    by_cases e : x = c
                    · rw [e]; exact hz
                    · exact hno.out x h0 (by omega)
                  clear hz
                  go_wp2
                  go_roundg (10 - (c + 1))
                  case measure => omega
                  case rel => exact ⟨rfl, c + 1, rfl, by omega, by go_num, hnx.out⟩
              · exfalso
                have := hno.out ((10 - t % 10) % 10) (by omega) (by omega)
                omega
  · have h : Hid (rdN (sb s) = -1) := rd_no (head_no_len (by rw [sb_len]; exact h11))
    have h11' : ((s.size : Int) != 11) = true := by simp; omega
    clear h11
    go_enter Try.func10, Try.ntmps10
    go_wp2
    go_ret
    exact ⟨ret_int h.out.symm, Below.refl _ _⟩
end Go.Proofs.Ytcidbmkmnlneiaa.Id
