/-
  The contract of Tick. Conditions: at most five thousand things said.
-/
import Derived.Test.YtganokcmcdkdgaaUTick
namespace Go.Proofs.Ytganokcmcdkdgaa.Pi
open Go.RowKit Wi Tb Wi.S

section
variable {w0 w w' : World} {b a : Nat} {s p nx : Int} {sv rv : Value} {xs : List ByteArray} {l : List Rw}
theorem at_cell {W : World} {A : Option Addr} {n c i : Nat} {ts : List ByteArray} (h : At W (.slice A n c) ts) (hi : i < n) : ∃ g o t, A = some ⟨g, o, none⟩ ∧ ts[i]? = some t ∧ W.cell? ⟨g, o + i, none⟩ = some (.string t) := by
  obtain ⟨A', cap, e, _, h3⟩ := h
  cases e
  obtain ⟨g, o, h4, _, h6⟩ := h3 (by omega)
  have h5 : ts[i]? = some ts[i] := List.getElem?_eq_getElem hi
  exact ⟨g, o, _, h4, h5, h6 i _ h5⟩
set_option maxRecDepth 100000 in
set_option maxHeartbeats 4000000 in
theorem tick_any (h : PX w0 w b s p sv a xs nx rv l) : Calls Try.prog 16 #[.pointer (some ⟨b, 0, none⟩)] w fun e w' => ∃ A k c, e = .returned (.slice A k c) ∧ k = (winL xs a).length ∧ Below w.heap.size w w' ∧ ∃ B vs, w.heap.size ≤ B ∧ k = vs.length ∧ PkR w0.heap.size B 42 s p a (winL xs a) (.slice A k c) vs w' := by
  have HN := Lib.hid (none_any w b)
  have HWI := Lib.hid (window_any h.pi.o)
  have H := Lib.hid h
  have hxs := h.pi.o.few
  have hax := h.pi.o.le
  obtain ⟨ts, hts⟩ : ∃ ts, ts = winL xs a := ⟨_, rfl⟩
  have hk16 : (winL xs a).length ≤ 16 := by rw [winL_len]; omega
  rw [← hts] at HWI hk16 ⊢
  obtain ⟨k, hk⟩ : ∃ k, k = ts.length := ⟨_, rfl⟩
  rw [← hk] at HWI hk16 ⊢
  have HK := Lib.hid hk
  have ha5 : a ≤ 5000 := by omega
  clear h hts hk hxs hax
  go_enter Try.func16, Try.ntmps16
  go_wp2_with (first
    | (go_at_call 32; (with_reducible refine HWI.out.mono ?_); rintro e w1 ⟨A1, c1, rfl, hr, hb⟩; have HR := Lib.hid (At.of_own hr); have HB := Lib.hid hb; clear hr hb)
    | (go_at_call 30; (with_reducible refine HN.out.mono ?_); rintro e w1 ⟨rfl, rfl⟩))
  clear HWI
  go_loopg [5, 21] k (fun (gh : Nat) s5 s21 wx => ∃ (i : Nat) (A2 : Option Addr) (c2 : Nat) (vs : List Value), gh = k - i ∧ i ≤ k ∧ s21 = .int .i64 (i : Int) ∧ s5 = .slice A2 i c2 ∧ Hid (i = vs.length) ∧ Hid (PkR w0.heap.size w1.heap.size 42 s p a ts (.slice A2 i c2) vs wx) ∧ Hid (Below w1.heap.size w1 wx))
  case atStart => exact ⟨0, none, 0, [], rfl, Nat.zero_le _, rfl, rfl, rfl, PkR.nil _ _ _ _ _ _ _ _, Below.refl _ _⟩
  case round =>
    obtain ⟨i, A2, c2, vs, rfl, hi, rfl, rfl, HV, HP, HW⟩ := hrel
    by_cases hlt : i < k
    · have t1 : (i : Int) < (k : Int) := by omega
      have t2 : (0 : Int) ≤ (i : Int) := by omega
      obtain ⟨N, hN⟩ : ∃ N : Int, N = ((a + i : Nat) : Int) := ⟨_, rfl⟩
      have HNN := Lib.hid hN
      have t3 : IntKind.i64.wrap ((a : Int) + (i : Int)) = N := by rw [IntKind.wrap_i64]; omega
      clear hN
      obtain ⟨g, o, t, rfl, ht, hcu⟩ := at_cell (HR.out.below HW.out) hlt
      have HT := Lib.hid ht
      have hpx := (H.out.below HB.out).below HW.out
      have HPK : Hid (Calls Try.prog 33 #[.pointer (some ⟨b, 0, none⟩), .int .i64 1, .int .i64 N] wr fun e w' => e = .returned (.agg #[.int .i64 1, .int .i64 s, .int .i64 p, .int .i64 N, .slice none 0 0]) ∧ Below wr.heap.size wr w') := packet_any hpx.pi 1 _
      obtain ⟨cv, cw, hcv⟩ := str_new t
      have q1 := fun W => (hcv W w0.heap.size).1
      have Q2 := Lib.hid (fun W => (hcv W w0.heap.size).2)
      obtain ⟨m, hm⟩ : ∃ m, m = t.size := ⟨_, rfl⟩
      rw [← hm] at q1 Q2
      clear hcv ht hpx hm
      go_upto_region 8 with (go_at_call 33; (with_reducible refine HPK.out.mono ?_); rintro e w4 ⟨rfl, hb⟩; have HB4 := Lib.hid hb; clear hb)
      have E5 := Tb.block_new w4 (.cells #[.int .i64 1, .int .i64 s, .int .i64 p, .int .i64 N, .slice none 0 0] 42)
      have hb5 : Below wr.heap.size wr (w4.alloc (.cells #[.int .i64 1, .int .i64 s, .int .i64 p, .int .i64 N, .slice none 0 0] 42)) := HB4.out.alloc HB4.out.size _
      have h45 : wr.heap.size ≤ w4.heap.size := HB4.out.size
      have hz5 : (w4.alloc (.cells #[.int .i64 1, .int .i64 s, .int .i64 p, .int .i64 N, .slice none 0 0] 42)).heap.size = w4.heap.size + 1 := by simp
      obtain ⟨W5, hW5⟩ : ∃ W, W = w4.alloc (.cells #[.int .i64 1, .int .i64 s, .int .i64 p, .int .i64 N, .slice none 0 0] 42) := ⟨_, rfl⟩
      obtain ⟨b5, hb5'⟩ : ∃ b, b = w4.heap.size := ⟨_, rfl⟩
      rw [← hW5] at E5 hb5 hz5 ⊢
      rw [← hb5'] at E5 h45 hz5 ⊢
      clear hW5 hb5' HB4 HPK
      have hq := Q2.out W5
      have E6 := Tb.block_kept E5 hq.2
      have f6 := fro5 E6
      have c6 := (blk5 E6).2.2.2.2
      have hz6 := hq.2.size
      have hq1 := hq.1
      rw [hz5] at hq1
      have E7 : ((cw W5).setCell ⟨b5, 4, none⟩ (.slice (some ⟨b5 + 1, 0, none⟩) m (cv W5))).heap[b5]? = some (.cells #[.int .i64 1, .int .i64 s, .int .i64 p, .int .i64 N, .slice (some ⟨b5 + 1, 0, none⟩) m (cv W5)] 42 (0, 0)) := by
        simp only [World.setCell, Array.getElem?_modify, if_true]; rw [E6]; rfl
      have hb7 : Below wr.heap.size wr ((cw W5).setCell ⟨b5, 4, none⟩ (.slice (some ⟨b5 + 1, 0, none⟩) m (cv W5))) := (hb5.trans (hq.2.mono hb5.size)).setCell h45 _
      have hu7 : BF w0.heap.size ((cw W5).setCell ⟨b5, 4, none⟩ (.slice (some ⟨b5 + 1, 0, none⟩) m (cv W5))) (.slice (some ⟨b5 + 1, 0, none⟩) m (cv W5)) (Fr.sb t) := hq1.kept (Kept.of_set _ ⟨b5, 4, none⟩ _) (fun g hf e => by
        have e2 : g = b5 := e
        rw [e2] at hf
        rcases hf with hf | ⟨t', cs, fr, h3, h4⟩
        · have := H.out.bel.size; have := HB.out.size; have := HW.out.size; omega
        · rw [E6] at h3
          simp only [Option.some.injEq, Obj.cells.injEq] at h3
          rw [← h3.2.1] at h4
          revert h4; decide)
      clear hcu
      go_upto_region 9 with fail
      obtain ⟨W7, hW7⟩ : ∃ W, W = (cw W5).setCell ⟨b5, 4, none⟩ (.slice (some ⟨b5 + 1, 0, none⟩) m (cv W5)) := ⟨_, rfl⟩
      obtain ⟨U, hU⟩ : ∃ U, U = Value.slice (some ⟨b5 + 1, 0, none⟩) m (cv W5) := ⟨_, rfl⟩
      rw [← hU] at hW7
      rw [← hU, ← hW7] at E7 hb7 hu7
      rw [← hU, ← hW7]
      obtain ⟨d0, d1, d2, d3, d4⟩ := blk5 E7
      have hPK := HP.out.below hb7
      have hvl := HV.out
      have htt := HT.out
      rw [hvl] at htt hPK
      have hww := HW.out.size
      have h77 := hb7.size
      obtain ⟨A8, c8, W8, hrun, hpk8, hb8⟩ := PkR.app pkT (by decide) (by decide) hPK (by have := H.out.bel.size; have := HB.out.size; omega) (by omega) (by omega) htt hu7
      rw [← hvl] at hrun hpk8
      rw [show ((a + i : Nat) : Int) = N from HNN.out.symm] at hrun
      have HP8 := Lib.hid hpk8
      have HB8 := Lib.hid ((HW.out.trans (hb7.mono hww)).trans hb8)
      have HV8 : Hid (i + 1 = (vs ++ [U]).length) := by show i + 1 = _; rw [List.length_append, List.length_singleton, hvl]
      clear hPK hvl htt hww h77 hpk8 hb8 hW7 hU hq hq1 E6 f6 c6 hz6 E7 hb7 hu7 hz5 E5 hb5 h45 q1
      go_wp2_with (at_builtin; refine wpList_app_run _ rfl _ _ 52 rfl (.slice A2 i c2) (.slice (some ⟨W7.heap.size, 0, none⟩) 1 1) rfl rfl (.slice A8 (i + 1) c8) W8 (hrun _) ?_)
      go_roundg (k - (i + 1))
      case measure => omega
      case rel => exact ⟨i + 1, A8, c8, vs ++ [U], rfl, hlt, by go_num, rfl, HV8, HP8, HB8⟩
    · obtain rfl : i = k := by omega
      have t1 : ¬ (i : Int) < (i : Int) := by omega
      go_wp2
      go_ret
      exact ⟨_, _, _, rfl, rfl, HB.out.trans (HW.out.mono HB.out.size), _, HB.out.size, vs, HV.out, HP.out⟩
end
end Go.Proofs.Ytganokcmcdkdgaa.Pi
