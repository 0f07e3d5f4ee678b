/-
  The law NetCounts answers true where no slice of bytes is longer than may come in: its walk. Conditions: that.
-/
import Derived.Test.YtnekjbdogdghnaaNCnt
import Derived.Deep.CutBlock
namespace Go.Proofs.Ytnekjbdogdghnaa.Ne
open Go.RowKit Go.Conc Bx
open Fr (BAt bok bv)

theorem cell_of {W : World} {b j : Nat} {cs : Array Value} {t : TypeId} {fr : Nat × Nat} {u : Value} (h : W.heap[b]? = some (.cells cs t fr)) (hu : cs[j]? = some u) : W.cell? ⟨b, j, none⟩ = some u := by simp [World.cell?, h, hu]
theorem SFr.old {w W : World} {u : Value} {ts : List (List Int)} (h : SFr w.heap.size w u ts) (hb : Below w.heap.size w W) : SFr w.heap.size W u ts := h.ch (.of_below hb)
theorem fit_nil : Fit [[], [], []] := fun l hl x hx => by
  simp only [List.mem_cons, List.not_mem_nil, or_false, or_self] at hl
  subst hl
  cases hx
theorem CS.new {w W : World} {g cp : Nat} {arr : Array Value} {bs : List (Nat × Nat)} (h : NetB w.heap.size W w.heap.size 20 [[], [], []] 0 g cp arr bs) (hb : Below w.heap.size w W) : CS w W 0 0 0 [[], [], []] 0 :=
  ⟨g, cp, arr, bs, h, ⟨rfl, fit_nil, rfl, Nat.zero_le _⟩, by omega, hb⟩
theorem CS.num {w W : World} {i P G : Nat} {ls : List (List V)} {lost : Int} (h : CS w W i P G ls lost) : P ≤ 10 * i ∧ G ≤ P ∧ 0 ≤ lost ∧ lost ≤ 10 * (i : Int) ∧ Below w.heap.size w W := by
  obtain ⟨_, _, _, _, _, ⟨_, _, h1, h2⟩, h3, h4⟩ := h
  exact ⟨h2, by omega, h3.1, h3.2, h4⟩
set_option maxRecDepth 100000 in
set_option maxHeartbeats 16000000 in
theorem law_counts (w : World) (A : Option Addr) (n : Nat) (c : Nat) (cs : List AcP) (h : ActsW w A n cs) (hsz : ∀ a ∈ cs, ∀ t ∈ a.ls, t.length ≤ 140737488351232) : Calls Try.prog 7 #[.slice A n c] w fun e w' => e = .returned (.bool true) ∧ Below w.heap.size w w' := by
  have CN : Hid (Calls Try.prog 8 #[.int .i64 3, .int .i64 20] w fun e w' => e = .returned (.tuple #[.pointer (some ⟨w.heap.size, 0, none⟩), .int .i64 0]) ∧ (∃ g cp arr bs, NetB w.heap.size w' w.heap.size 20 [[], [], []] 0 g cp arr bs) ∧ Below w.heap.size w w') := nNew_any w 3 20 (by omega) (by omega) (by omega) (by omega)
  obtain ⟨N, hN⟩ : ∃ N, N = min 80 n := ⟨_, rfl⟩
  have hN1 : N ≤ n := by omega
  have hN2 : N ≤ 80 := by omega
  have HA := Lib.hid h
  have HN := Lib.hid hN
  have HZ := Lib.hid hsz
  clear h hsz hN
  go_enter Try.func7, Try.ntmps7
  go_wp2_with (first
    | (go_at_call 8; (with_reducible refine CN.out.mono ?_); rintro e w1 ⟨rfl, ⟨g, cp, arr, bs, n1⟩, k1⟩
       have S1 := Lib.hid (CS.new n1 k1)
       clear n1 k1))
  go_loopg [5, 6, 7] N (fun (gh : Nat) s5 s6 s7 wx => ∃ (i P G : Nat) (ls : List (List V)) (lost : Int), gh = N - i ∧ i ≤ N ∧ s7 = .int .i64 (i : Int) ∧ s5 = .int .i64 (P : Int) ∧ s6 = .int .i64 (G : Int) ∧ Hid (CS w wx i P G ls lost))
  case atStart => exact ⟨0, 0, 0, _, 0, rfl, Nat.zero_le _, rfl, rfl, rfl, S1⟩
  case round =>
    clear S1 CN
    obtain ⟨i, P, G, ls, lost, rfl, hi, rfl, rfl, rfl, HH⟩ := hrel
    by_cases hlt : i < N
    · have t1 : (i : Int) < (n : Int) := by omega
      have t2 : (i : Int) < 80 := by omega
      have t3 : (0 : Int) ≤ (i : Int) := by omega
      obtain ⟨ac, hac⟩ : ∃ ac, cs[i]? = some ac := ⟨_, List.getElem?_eq_getElem (by rw [HA.out.1]; omega)⟩
      obtain ⟨g, o, rfl, hg, hok, k0, k1, k2, k3, k4⟩ := HA.out.2 i ac hac
      have hcl : Below w.heap.size w wr := by obtain ⟨_, _, _, _, _, _, _, h7⟩ := HH.out; exact h7
      have c0 : wr.cell? ⟨g, o + i * 5, none⟩ = some (.int .i64 ac.k) := (hcl.cell (p := ⟨g, o + (i * 5 + 0), none⟩) hg).trans k0
      have c1 : wr.cell? ⟨g, o + i * 5 + 1, none⟩ = some (.int .i64 ac.d) := (hcl.cell (p := ⟨g, o + (i * 5 + 1), none⟩) hg).trans k1
      have c2 : wr.cell? ⟨g, o + i * 5 + 2, none⟩ = some (.int .i64 ac.a) := (hcl.cell (p := ⟨g, o + (i * 5 + 2), none⟩) hg).trans k2
      have c3 : wr.cell? ⟨g, o + i * 5 + 3, none⟩ = some (.int .u8 ac.b) := (hcl.cell (p := ⟨g, o + (i * 5 + 3), none⟩) hg).trans k3
      have c4 : wr.cell? ⟨g, o + i * 5 + 4, none⟩ = some (.slice ac.A ac.nb ac.cb) := (hcl.cell (p := ⟨g, o + (i * 5 + 4), none⟩) hg).trans k4
      have HOK := Lib.hid hok
      have HSZ := Lib.hid (HZ.out ac (List.mem_of_getElem? hac))
      have EM := Lib.hid (show (N - (i + 1) < N - i) by omega)
      have HI : Hid (i < 80) := by show i < 80; omega
      clear k0 k1 k2 k3 k4 hac hi hok hcl
      have hkr : 0 ≤ (IntKind.u64.wrap ac.k).tmod 6 ∧ (IntKind.u64.wrap ac.k).tmod 6 < 6 := by
        have h1 : 0 ≤ IntKind.u64.wrap ac.k := by rw [IntKind.wrap_u64]; omega
        rw [Int.tmod_eq_emod_of_nonneg h1]; omega
      obtain ⟨kk, hkk⟩ : ∃ kk, (IntKind.u64.wrap ac.k).tmod 6 = kk := ⟨_, rfl⟩
      rw [hkk] at hkr
      have HB : Hid (CS w (wr.alloc (.cells #[.int .i64 ac.k, .int .i64 ac.d, .int .i64 ac.a, .int .u8 ac.b, .slice ac.A ac.nb ac.cb] 35)) i P G ls lost) := HH.out.below ((Below.refl _ _).alloc (Nat.le_refl _) _)
      have HL := Lib.hid HB.out.lostc
      go_upto_block 2 with (first
        | (go_at_call 27; (with_reducible refine HL.out.mono ?_); rintro e w2 ⟨rfl, rfl⟩))
      obtain ⟨WB, hWB⟩ : ∃ WB, WB = wr.alloc (.cells #[.int .i64 ac.k, .int .i64 ac.d, .int .i64 ac.a, .int .u8 ac.b, .slice ac.A ac.nb ac.cb] 35) := ⟨_, rfl⟩
      obtain ⟨ab, hab⟩ : ∃ ab, ab = wr.heap.size := ⟨_, rfl⟩
      have hbk : WB.heap[ab]? = some (.cells #[.int .i64 ac.k, .int .i64 ac.d, .int .i64 ac.a, .int .u8 ac.b, .slice ac.A ac.nb ac.cb] 35 (0, 0)) := by rw [hWB, hab]; exact block_new _ _
      have HAB := Lib.hid hbk
      rw [← hWB] at HB ⊢
      rw [← hab]
      clear hWB hab hbk HH HL c0 c1 c2 c3 c4 hkk
      go_cut [5, 6, 9, 10, 11, 12, 13] from 44 to 121 (fun s5 s6 _ _ _ _ _ wx => ∃ (P G : Nat) (ls : List (List V)) (lost : Int), s5 = .int .i64 (P : Int) ∧ s6 = .int .i64 (G : Int) ∧ Hid (CS w wx (i + 1) P G ls lost))
      case first =>
        have x0 : WB.cell? ⟨ab, 0, none⟩ = some (.int .i64 ac.k) := cell_of HAB.out rfl
        have x1 : WB.cell? ⟨ab, 1, none⟩ = some (.int .i64 ac.d) := cell_of HAB.out rfl
        have x2 : WB.cell? ⟨ab, 2, none⟩ = some (.int .i64 ac.a) := cell_of HAB.out rfl
        have x3 : WB.cell? ⟨ab, 3, none⟩ = some (.int .u8 ac.b) := cell_of HAB.out rfl
        have x4 : WB.cell? ⟨ab, 4, none⟩ = some (.slice ac.A ac.nb ac.cb) := cell_of HAB.out rfl
        have hnum := HB.out.num
        obtain ⟨hn1, hn2, hn3, hn4, _⟩ := hnum
        by_cases q0 : kk = 0
        · subst q0
          obtain ⟨q, hq⟩ : ∃ q, q = min ac.nb 10 := ⟨_, rfl⟩
          have t1 : (if (10 : Int) < (ac.nb : Int) then (10 : Int) else (ac.nb : Int)) = (q : Int) := by split <;> omega
          have t2 : min (ac.nb : Int) 10 = (q : Int) := by omega
          have hnl : ac.ls.length = ac.nb ∧ ac.nb ≤ ac.cb := by obtain ⟨_, _, e, h5, _⟩ := HOK.out.2; simp only [Value.slice.injEq] at e; obtain ⟨-, e1, e2⟩ := e; omega
          have hs := slice_bb ac.A ac.nb ac.cb q (by omega)
          have HQ : Hid (q ≤ ac.nb ∧ q ≤ 10) := ⟨by omega, by omega⟩
          have HSD := Lib.hid (HB.out.send HI.out ac.d ac.A q ac.cb (ac.ls.take q) (by rw [List.length_take]; omega) ((HOK.out.2.old HB.out.num.2.2.2.2).take q (by omega)) (by omega) (fun t ht => HSZ.out t (List.mem_of_mem_take ht)))
          clear hq hnl
          go_upto_region 15 with (first
            | (go_at_call 12; (with_reducible refine HSD.out.mono ?_); rintro e w3 ⟨k, ls', rfl, hk, hc⟩
               have HC := Lib.hid hc
               have e1 : IntKind.i64.wrap (lost + (q : Int)) = lost + (q : Int) := (by rw [IntKind.wrap_i64]; have := HQ.out; have := HI.out; omega)
               have e2 : IntKind.i64.wrap (lost + (q : Int) - (k : Int)) = lost + ((q : Int) - (k : Int)) := (by rw [IntKind.wrap_i64]; have := HQ.out; have := HI.out; omega)
               have e3 : IntKind.i64.wrap ((P : Int) + (k : Int)) = ((P + k : Nat) : Int) := (by rw [IntKind.wrap_i64]; have := HQ.out; have := HI.out; omega)
               clear hc hk))
          go_wp2_with (first
            | (go_at_call 27; (with_reducible refine HC.out.lostc.mono ?_); rintro e w4 ⟨rfl, rfl⟩))
          go_meet
          exact ⟨P + k, G, ls', _, by first | rfl | go_num, rfl, HC⟩
        · by_cases q1 : kk = 1
          · subst q1
            have HSD := Lib.hid (HB.out.next ac.d)
            have e3 : IntKind.i64.wrap ((G : Int) + 1) = ((G + 1 : Nat) : Int) := by rw [IntKind.wrap_i64]; have := HI.out; omega
            go_upto_region 20 with (first
              | (go_at_call 13; (with_reducible refine HSD.out.mono ?_); rintro e w3 ⟨u, m, ls', rfl, hc⟩; have HC := Lib.hid hc; clear hc))
            by_cases hm : m = 0
            · rw [if_pos hm] at HC
              go_wp2
              go_meet
              exact ⟨P, G + 1, ls', lost, rfl, by first | rfl | go_num, HC⟩
            · rw [if_neg hm] at HC
              go_wp2
              go_meet
              exact ⟨P, G, ls', lost, rfl, rfl, HC⟩
          · by_cases q2 : kk = 2
            · subst q2
              have HSD := Lib.hid (HB.out.turn ac.d)
              go_wp2_with (first
                | (go_at_call 16; (with_reducible refine HSD.out.mono ?_); rintro e w3 ⟨m, ls', rfl, hc⟩; have HC := Lib.hid hc; clear hc))
              go_meet
              exact ⟨P, G, ls', lost, rfl, rfl, HC⟩
            · by_cases q3 : kk = 3
              · subst q3
                have HSD := Lib.hid (HB.out.lose HI.out ac.d)
                have e3 : IntKind.i64.wrap ((G : Int) + 1) = ((G + 1 : Nat) : Int) := by rw [IntKind.wrap_i64]; have := HI.out; omega
                have e4 : IntKind.i64.wrap (lost + 1) = lost + 1 := by rw [IntKind.wrap_i64]; have := HI.out; omega
                obtain ⟨m, hm⟩ : ∃ m, m = mayF ls ac.d := ⟨_, rfl⟩
                rw [← hm] at HSD
                obtain ⟨ls', hls⟩ : ∃ l, l = nextL ls ac.d := ⟨_, rfl⟩
                rw [← hls] at HSD
                clear hm hls
                by_cases hm : m = 0
                · rw [if_pos hm, if_pos hm] at HSD
                  go_wp2_with (first
                    | (go_at_call 27; (with_reducible refine HC.out.lostc.mono ?_); rintro e w4 ⟨rfl, rfl⟩)
                    | (go_at_call 18; (with_reducible refine HSD.out.mono ?_); rintro e w3 ⟨rfl, hc⟩; have HC := Lib.hid hc; clear hc))
                  go_meet
                  exact ⟨P, G + 1, ls', lost + 1, rfl, by first | rfl | go_num, HC⟩
                · rw [if_neg hm, if_neg hm] at HSD
                  go_wp2_with (first
                    | (go_at_call 27; (with_reducible refine HC.out.lostc.mono ?_); rintro e w4 ⟨rfl, rfl⟩)
                    | (go_at_call 18; (with_reducible refine HSD.out.mono ?_); rintro e w3 ⟨rfl, hc⟩; have HC := Lib.hid hc; clear hc))
                  go_meet
                  exact ⟨P, G, ls', lost, rfl, rfl, HC⟩
              · by_cases q4 : kk = 4
                · subst q4
                  have HSD := Lib.hid (HB.out.double ac.d)
                  have e3 : IntKind.i64.wrap ((P : Int) + 1) = ((P + 1 : Nat) : Int) := by rw [IntKind.wrap_i64]; have := HI.out; omega
                  obtain ⟨m, hm⟩ : ∃ m, m = dblE 20 ls ac.d := ⟨_, rfl⟩
                  rw [← hm] at HSD
                  obtain ⟨ls', hls⟩ : ∃ l, l = dblL 20 ls ac.d := ⟨_, rfl⟩
                  rw [← hls] at HSD
                  clear hm hls
                  by_cases hm : m = 0
                  · rw [if_pos hm] at HSD
                    go_wp2_with (first
                      | (go_at_call 20; (with_reducible refine HSD.out.mono ?_); rintro e w3 ⟨rfl, hc⟩; have HC := Lib.hid hc; clear hc))
                    go_meet
                    exact ⟨P + 1, G, ls', lost, by first | rfl | go_num, rfl, HC⟩
                  · rw [if_neg hm] at HSD
                    go_wp2_with (first
                      | (go_at_call 20; (with_reducible refine HSD.out.mono ?_); rintro e w3 ⟨rfl, hc⟩; have HC := Lib.hid hc; clear hc))
                    go_meet
                    exact ⟨P, G, ls', lost, rfl, rfl, HC⟩
                · obtain rfl : kk = 5 := by omega
                  have HSD := Lib.hid (HB.out.bend ac.d ac.a ac.b HOK.out.1)
                  go_wp2_with (first
                    | (go_at_call 22; (with_reducible refine HSD.out.mono ?_); rintro e w3 ⟨m, ls', rfl, hc⟩; have HC := Lib.hid hc; clear hc))
                  go_meet
                  exact ⟨P, G, ls', lost, rfl, rfl, HC⟩
      case rest =>
        clear HB HAB HOK HSZ
        obtain ⟨P, G, ls, lost, rfl, rfl, HC⟩ := hcut
        obtain ⟨l0, l1, l2, h0, h1, h2, h3⟩ : ∃ a b c, ls[0]? = some a ∧ ls[1]? = some b ∧ ls[2]? = some c ∧ tot ls = a.length + b.length + c.length := by
          obtain ⟨_, _, _, _, _, ⟨h, _⟩, _⟩ := HC.out
          exact tot_three h
        have hP : l0.length + l1.length + l2.length + G = P ∧ P ≤ 1000 := by
          obtain ⟨_, _, _, _, _, ⟨_, _, h5, h6⟩, _⟩ := HC.out
          have := HI.out
          omega
        obtain ⟨n0, hn0⟩ : ∃ n0, n0 = l0.length := ⟨_, rfl⟩
        obtain ⟨n1, hn1⟩ : ∃ n1, n1 = l1.length := ⟨_, rfl⟩
        obtain ⟨n2, hn2⟩ : ∃ n2, n2 = l2.length := ⟨_, rfl⟩
        rw [← hn0, ← hn1, ← hn2] at hP
        have H0 : Hid (∀ W, CS w W (i + 1) P G ls lost → Calls Try.prog 26 #[.pointer (some ⟨w.heap.size, 0, none⟩), .int .i64 0] W fun e w' => e = .returned (.int .i64 (n0 : Int)) ∧ CS w w' (i + 1) P G ls lost) := fun W hW => by rw [hn0]; exact hW.len h0
        have H1 : Hid (∀ W, CS w W (i + 1) P G ls lost → Calls Try.prog 26 #[.pointer (some ⟨w.heap.size, 0, none⟩), .int .i64 1] W fun e w' => e = .returned (.int .i64 (n1 : Int)) ∧ CS w w' (i + 1) P G ls lost) := fun W hW => by rw [hn1]; exact hW.len h1
        have H2 : Hid (∀ W, CS w W (i + 1) P G ls lost → Calls Try.prog 26 #[.pointer (some ⟨w.heap.size, 0, none⟩), .int .i64 2] W fun e w' => e = .returned (.int .i64 (n2 : Int)) ∧ CS w w' (i + 1) P G ls lost) := fun W hW => by rw [hn2]; exact hW.len h2
        have e1 : IntKind.i64.wrap ((n0 : Int) + (n1 : Int)) = (n0 : Int) + (n1 : Int) := by rw [IntKind.wrap_i64]; omega
        have e2 : IntKind.i64.wrap ((n0 : Int) + (n1 : Int) + (n2 : Int)) = (n0 : Int) + (n1 : Int) + (n2 : Int) := by rw [IntKind.wrap_i64]; omega
        have e3 : IntKind.i64.wrap ((P : Int) - (G : Int)) = (n0 : Int) + (n1 : Int) + (n2 : Int) := by rw [IntKind.wrap_i64]; omega
        have e4 : IntKind.i64.wrap ((i : Int) + 1) = ((i + 1 : Nat) : Int) := by rw [IntKind.wrap_i64]; have := HI.out; omega
        clear h0 h1 h2 h3 hn0 hn1 hn2 hP
        go_wp2_with (first
          | (go_at_call 26; (with_reducible refine (H0.out _ HC.out).mono ?_); rintro e w4 ⟨rfl, hc⟩; have HC0 := Lib.hid hc; clear hc)
          | (go_at_call 26; (with_reducible refine (H1.out _ HC0.out).mono ?_); rintro e w5 ⟨rfl, hc⟩; have HC1 := Lib.hid hc; clear hc)
          | (go_at_call 26; (with_reducible refine (H2.out _ HC1.out).mono ?_); rintro e w6 ⟨rfl, hc⟩; have HC2 := Lib.hid hc; clear hc))
        go_roundg (N - (i + 1))
        case measure => have := EM.out; omega
        case rel => exact ⟨i + 1, P, G, ls, lost, rfl, hlt, by first | rfl | go_num, rfl, rfl, HC2⟩
    · obtain rfl : i = N := by omega
      have HBEL : Hid (Below w.heap.size w wr) := HH.out.num.2.2.2.2
      by_cases hnn : i < n
      · have t1 : (i : Int) < (n : Int) := by omega
        have t2 : ¬ (i : Int) < 80 := by have := HN.out; omega
        clear hnn hlt
        go_wp2_with (go_at_call 10; refine (known_any _).mono ?_; rintro e w2 ⟨rfl, k2⟩)
        go_ret
        exact ⟨rfl, HBEL.out.trans (k2.mono HBEL.out.size)⟩
      · have t1 : ¬ (i : Int) < (n : Int) := by omega
        clear hnn hlt
        go_wp2_with (go_at_call 10; refine (known_any _).mono ?_; rintro e w2 ⟨rfl, k2⟩)
        go_ret
        exact ⟨rfl, HBEL.out.trans (k2.mono HBEL.out.size)⟩
end Go.Proofs.Ytnekjbdogdghnaa.Ne
