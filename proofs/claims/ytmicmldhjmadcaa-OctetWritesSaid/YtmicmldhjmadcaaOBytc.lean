/-
  The contract of the law's bytes at a wide number, and over all kinds. Conditions: the part's own ranges; a text of at most 300 bytes.
-/
import Derived.Test.YtmicmldhjmadcaaOBytb
namespace Go.Proofs.Ytmicmldhjmadcaa.Oc
open Go.RowKit

/-- Some bytes behind others. -/
theorem byt2 (w wl : World) (x y : Value) (l1 l2 : List Int) (A1 A2 : Option Addr) (n1 c1 n2 c2 base1 base2 : Nat) (hb0 : w.heap.size + 1 ≤ base1) (hb1 : base1 ≤ wl.heap.size) (ho1 : wl.ownsRow base1 5 1 (.slice A1 n1 c1) l1.length (bv l1)) (ho2 : wl.ownsRow base2 5 1 (.slice A2 n2 c2) l2.length (bv l2))
    (h1 : 1 ≤ l2.length) (hlen : l1.length + l2.length ≤ 1000) (hW : Below w.heap.size w wl) (hc1 : wl.cell? ⟨w.heap.size, 1, none⟩ = some x) (hc2 : wl.cell? ⟨w.heap.size, 2, none⟩ = some y) :
    ∃ A n c w3, (Builtin.append_ #[27, 27] 27 #[.slice A1 n1 c1, .slice A2 n2 c2]).run Try.prog wl = .ok (.slice A n c) w3 ∧ (w3.cell? ⟨w.heap.size, 1, none⟩ = some x ∧ w3.cell? ⟨w.heap.size, 2, none⟩ = some y) ∧ w3.ownsRow w.heap.size 5 1 (.slice A n c) (l1 ++ l2).length (bv (l1 ++ l2)) ∧ Below w.heap.size w w3 := by
  obtain ⟨i0, hi0, hz0, hz1, hz2⟩ := info_parts u8Inf
  obtain ⟨g, cap, he, _, _⟩ := ho2.form (by omega)
  cases he
  obtain ⟨v', w3, hrun, h3, h4, _⟩ := run_append_own (P := Try.prog) wl base1 27 27 5 i0 _ 1 1 Try.underlying27 hi0 hz0 hz1 hz2 rfl (by decide) _ l1.length (bv l1) ho1 ⟨g, 0, none⟩ l2.length c2 (bv l2) (by rw [bv_len]; omega) (ho2.cells (g := g) rfl) (bv_one _) (by unfold maxLen; omega) (by omega) hb1
  obtain ⟨A, n, c, rfl⟩ : ∃ A n c, v' = Value.slice A n c := by
    rcases h3.2 with ⟨h5, _⟩ | ⟨g, cap, _, h5, _⟩
    · exact ⟨none, 0, 0, h5⟩
    · exact ⟨_, _, cap, h5⟩
  have h8 := h4.block w.heap.size (by omega) (fun e => by have := (ho1.lt _ e.symm).1; omega)
  refine ⟨A, n, c, w3, hrun, ⟨(cell_same h8 1).trans hc1, (cell_same h8 2).trans hc2⟩, ?_, hW.grown h4 (by omega) (fun j hj => by have := (ho1.lt j hj).1; omega)⟩
  rw [List.length_append, bv_app]
  exact ownsRow_base h3 (by omega)
theorem ownsRow_below {w w' : World} {base : Nat} {v : Value} {n : Nat} {xs : List Value} (h : w.ownsRow base 5 1 v n xs) (hb : Below w.heap.size w w') : w'.ownsRow base 5 1 v n xs := ownsRow_kept h (fun g hg => hb.block g (h.lt g hg).2)
theorem own_slice {w : World} {base : Nat} {v : Value} {n : Nat} {xs : List Value} (h : w.ownsRow base 5 1 v n xs) : ∃ A m c, v = Value.slice A m c := by
  rcases h.2 with ⟨h1, _⟩ | ⟨g, cap, _, h1, _⟩
  · exact ⟨none, 0, 0, h1⟩
  · exact ⟨_, _, cap, h1⟩
set_option maxRecDepth 100000 in
set_option maxHeartbeats 1000000 in
theorem lbytes_2 (w : World) (k n : Int) (lo : Nat) (s : ByteArray) (m : Int) (hk : (IntKind.u64.wrap k).tmod 5 = ((2 : Nat) : Int))
    (h1 : -9223372036854775808 ≤ n) (h2 : n < 9223372036854775808) (h3 : lo < 18446744073709551616) :
    Calls Try.prog 8 #[partV k n (lo : Int) s m] w (BytTo w (pbytes 2 n lo s) (pok 2 n)) := by
  obtain ⟨W0, hW0⟩ : ∃ W0, W0 = (w.alloc (partO k n lo s m)).drew := ⟨_, rfl⟩
  have hB : Below w.heap.size w W0 := by rw [hW0]; exact ((Below.refl _ _).alloc (Nat.le_refl _) _).drew
  have hz0 : w.heap.size + 1 = W0.heap.size := by rw [hW0]; simp
  have hp := block_new w (partO k n lo s m)
  have c1 : W0.cell? ⟨w.heap.size, 1, none⟩ = some (.int .i64 n) := by
    rw [hW0]
    show (w.alloc (partO k n lo s m)).cell? _ = _
    simp only [World.cell?]; rw [hp]; rfl
  have c2 : W0.cell? ⟨w.heap.size, 2, none⟩ = some (.int .u64 (lo : Int)) := by
    rw [hW0]
    show (w.alloc (partO k n lo s m)).cell? _ = _
    simp only [World.cell?]; rw [hp]; rfl
  have HZ := Lib.hid (fun W => zigzag_any W n h1 h2)
  have HG := Lib.hid (fun W => fgroups_any W (fold n) (fold_lt h1 h2))
  have HWD := Lib.hid (fun W => fword_any W lo h3)
  have hgl := grp_len (fold n)
  have HLN : Hid (1 ≤ (wordF 8 lo).length ∧ (grp (fold n)).length + (wordF 8 lo).length ≤ 1000) := by rw [wordF_len]; exact ⟨by omega, by omega⟩
  show Calls _ _ _ _ (BytTo w (grp (fold n) ++ wordF 8 lo) true)
  have HW0 := Lib.hid hW0
  have HB := Lib.hid hB
  have HZ0 := Lib.hid hz0
  have D0 : W0.cell? ⟨w.heap.size, 1, none⟩ = some (.int .i64 n) ∧ W0.cell? ⟨w.heap.size, 2, none⟩ = some (.int .u64 (lo : Int)) := ⟨c1, c2⟩
  obtain ⟨f, hf⟩ : ∃ f, f = fold n := ⟨_, rfl⟩
  obtain ⟨G, hG⟩ : ∃ G, G = grp (fold n) := ⟨_, rfl⟩
  obtain ⟨L, hL⟩ : ∃ L, L = wordF 8 lo := ⟨_, rfl⟩
  have hGf : grp f = G := by rw [hf, hG]
  rw [← hG, ← hL] at HLN ⊢
  rw [← hf] at HZ HG
  rw [← hL] at HWD
  rw [hGf] at HG
  have HD0 := Lib.hid D0
  rw [hW0] at D0
  clear hW0 hB hz0 hp c1 c2 hgl hf hG hL hGf h1 h2 h3
  unfold partV partO at *
  go_enter Try.func8, Try.ntmps8
  go_wp2_with fail
  go_region_held3 (fun w' => w'.cell? ⟨w.heap.size, 1, none⟩ = some (.int .i64 n) ∧ w'.cell? ⟨w.heap.size, 2, none⟩ = some (.int .u64 (lo : Int)))
    (first
      | (exact D3)
      | (exact D2)
      | (exact D1)
      | (exact D0)
      | go_keep)
    (first
      | (refine step_app_run wl (by rfl) (.tmp 28) (.tmp 31) 27 27 (by rfl) (.slice A1 n1 q1) (.slice A2 n2 q2) (by rfl) (by rfl) (.slice A3 n3 q3) w3 hrun ?_)
      | (go_at_call 28; refine (HZ.out _).mono ?_; rintro e w1 ⟨rfl, rfl⟩)
      | (go_at_call 29; (with_reducible refine (HWD.out wa).mono ?_); rintro e wl ⟨vw, rfl, how, hbw⟩
         obtain ⟨A2, n2, q2, rfl⟩ := own_slice how
         have D2 : wl.cell? ⟨w.heap.size, 1, none⟩ = some (.int .i64 n) ∧ wl.cell? ⟨w.heap.size, 2, none⟩ = some (.int .u64 (lo : Int)) := ⟨(hbw.cell (p := ⟨w.heap.size, 1, none⟩) ZA).trans D1.1, (hbw.cell (p := ⟨w.heap.size, 2, none⟩) ZA).trans D1.2⟩
         obtain ⟨A3, n3, q3, w3, hrun, D3, ho3, hb3⟩ := byt2 w wl _ _ G L A1 A2 n1 q1 n2 q2 W0.heap.size wa.heap.size (by have := HZ0.out; omega) (Nat.le_trans KA.out.size hbw.size) (ownsRow_below OA.out hbw) how HLN.out.1 HLN.out.2 (BA1.out.trans (hbw.mono BA1.out.size)) D2.1 D2.2
         have O3 := Lib.hid ho3
         have B3 := Lib.hid hb3
         clear how hbw ho3 hb3)
      | (go_at_call 27; (with_reducible refine (HG.out wb).mono ?_); rintro e wl ⟨vg, rfl, hog, hbg⟩
         obtain ⟨A1, n1, q1, rfl⟩ := own_slice hog
         have D2 : wl.cell? ⟨w.heap.size, 1, none⟩ = some (.int .i64 n) ∧ wl.cell? ⟨w.heap.size, 2, none⟩ = some (.int .u64 (lo : Int)) := ⟨(hbg.cell (p := ⟨w.heap.size, 1, none⟩) ZA).trans D1.1, (hbg.cell (p := ⟨w.heap.size, 2, none⟩) ZA).trans D1.2⟩
         obtain ⟨A3, n3, q3, w3, hrun, D3, ho3, hb3⟩ := byt2 w wl _ _ G L A1 A2 n1 q1 n2 q2 wb.heap.size W0.heap.size (by have := HZ0.out; have := KA.out.size; omega) hbg.size hog (ownsRow_below OA.out hbg) HLN.out.1 HLN.out.2 (BA1.out.trans (hbg.mono BA1.out.size)) D2.1 D2.2
         have O3 := Lib.hid ho3
         have B3 := Lib.hid hb3
         clear hog hbg ho3 hb3)
      | (go_at_call 27; rw [← HW0.out]; (with_reducible refine (HG.out W0).mono ?_); rintro e wa ⟨vg, rfl, hog, hbg⟩
         obtain ⟨A1, n1, q1, rfl⟩ := own_slice hog
         have ZA : w.heap.size < wa.heap.size := by have := HZ0.out; have := hbg.size; omega
         have D1 : wa.cell? ⟨w.heap.size, 1, none⟩ = some (.int .i64 n) ∧ wa.cell? ⟨w.heap.size, 2, none⟩ = some (.int .u64 (lo : Int)) := ⟨(hbg.cell (p := ⟨w.heap.size, 1, none⟩) (by have := HZ0.out; show w.heap.size < _; omega)).trans HD0.out.1, (hbg.cell (p := ⟨w.heap.size, 2, none⟩) (by have := HZ0.out; show w.heap.size < _; omega)).trans HD0.out.2⟩
         have OA := Lib.hid hog
         have KA := Lib.hid hbg
         have BA1 := Lib.hid (HB.out.trans (hbg.mono HB.out.size))
         clear hog hbg)
      | (go_at_call 29; rw [← HW0.out]; (with_reducible refine (HWD.out W0).mono ?_); rintro e wb ⟨vw, rfl, how, hbw⟩
         obtain ⟨A2, n2, q2, rfl⟩ := own_slice how
         have ZA : w.heap.size < wb.heap.size := by have := HZ0.out; have := hbw.size; omega
         have D1 : wb.cell? ⟨w.heap.size, 1, none⟩ = some (.int .i64 n) ∧ wb.cell? ⟨w.heap.size, 2, none⟩ = some (.int .u64 (lo : Int)) := ⟨(hbw.cell (p := ⟨w.heap.size, 1, none⟩) (by have := HZ0.out; show w.heap.size < _; omega)).trans HD0.out.1, (hbw.cell (p := ⟨w.heap.size, 2, none⟩) (by have := HZ0.out; show w.heap.size < _; omega)).trans HD0.out.2⟩
         have OA := Lib.hid how
         have KA := Lib.hid hbw
         have BA1 := Lib.hid (HB.out.trans (hbw.mono HB.out.size))
         clear how hbw))
  all_goals
    go_wp2
    go_ret2
    exact BytTo.mk O3.out B3.out
theorem lbytes_any (w : World) (k n : Int) (lo d : Nat) (s : ByteArray) (m : Int) (hk : (IntKind.u64.wrap k).tmod 5 = (d : Int)) (hd : d < 5)
    (h1 : -9223372036854775808 ≤ n) (h2 : n < 9223372036854775808) (h3 : lo < 18446744073709551616) (hs : s.size ≤ 300) :
    Calls Try.prog 8 #[partV k n (lo : Int) s m] w (BytTo w (pbytes d n lo s) (pok d n)) := by
  rcases (by omega : (d = 0 ∨ d = 1 ∨ d = 4) ∨ d = 2 ∨ d = 3) with h4 | rfl | rfl
  · exact lbytes_a w k n lo d s m hk h4 h1 h2 h3
  · exact lbytes_2 w k n lo s m hk h1 h2 h3
  · exact lbytes_3 w k n lo s m hk hs
end Go.Proofs.Ytmicmldhjmadcaa.Oc
