/-
  The reference's In: Offer, Pop, Kept. Conditions: at most sixteen things.
-/
import Derived.Test.YtaidihilhblhgaaWRefI
import Derived.Deep.CutBlock
namespace Go.Proofs.Ytaidihilhblhgaa.Wi.I
open Go.RowKit Tb Ii
section
variable {w w' : World} {b : Nat} {nx : Int} {sv : Value} {l : List Rw}
set_option maxRecDepth 100000 in
set_option maxHeartbeats 1000000 in
theorem roffer_any (h : RefI w b nx sv l) (ha : asc l) (hl : l.length ≤ 16) (hx0 : 0 ≤ nx) (hx1 : nx ≤ 4398046511104) (n : Int) (hn : n ≤ 9223372036854775807) (x : Int) : Calls Try.prog 20 #[.pointer (some ⟨b, 0, none⟩), .int .i64 n, .int .i64 x] w fun e w' => e = .returned (.int .i64 (offE nx l n)) ∧ ∃ sv', RefI w' b nx sv' (offL nx l n x) ∧ Kept (fun i => i = b) w w' ∧ Nw w sv sv' := by
  have c0 := h.blk.c0
  have H := Lib.hid h
  by_cases h1 : n < nx
  · have e1 : offE nx l n = 8 := by unfold offE; rw [if_pos h1]
    have e2 : offL nx l n x = l := by unfold offL; rw [e1]; rfl
    rw [e1, e2]
    clear h e1 e2
    go_enter Try.func20, Try.ntmps20
    go_wp2
    go_ret
    exact ⟨rfl, _, H.out, Kept.refl _ _, Nw.refl _ _⟩
  have w1 : IntKind.i64.wrap (n - nx) = n - nx := by rw [IntKind.wrap_i64]; omega
  by_cases h2 : 16 ≤ n - nx
  · have e1 : offE nx l n = 7 := by unfold offE; rw [if_neg h1, if_pos h2]
    have e2 : offL nx l n x = l := by unfold offL; rw [e1]; rfl
    rw [e1, e2]
    clear h e1 e2
    go_enter Try.func20, Try.ntmps20
    go_wp2
    go_ret
    exact ⟨rfl, _, H.out, Kept.refl _ _, Nw.refl _ _⟩
  have hE : offE nx l n = if hasB l n = true then 6 else 0 := by unfold offE; rw [if_neg h1, if_neg h2]
  have HE := Lib.hid hE
  have c1 := h.blk.c1
  obtain ⟨A, c, rfl, hzc, hca⟩ := ThAt.of_own h.row
  have HT := Lib.hid (ThAt.of_own h.row)
  have HC := Lib.hid hca
  have HA := Lib.hid ha
  obtain ⟨p, hp⟩ : ∃ p, p = Tb.pl l n := ⟨_, rfl⟩
  have hpl := pl_le l n
  rw [← hp] at hpl
  have HP := Lib.hid hp
  obtain ⟨z, hz⟩ : ∃ z, z = l.length := ⟨_, rfl⟩
  have HZ := Lib.hid hz
  have HBT : Hid (hasB l n = true → ∃ v, l[p]? = some (n, v)) := fun h => by rw [hp]; exact (has_lt l n h).2
  have HBF : Hid (∀ r, l[p]? = some r → r.1 = n → hasB l n = true) := fun r h1 h2 => by
    rw [has_iff l ha]
    exact ⟨r, List.mem_of_getElem? h1, h2⟩
  rw [← hz] at hl hzc c1 hpl
  have hLT : hasB l n = true → offL nx l n x = l := fun h => by unfold offL; rw [hE, if_pos h]; rfl
  have hLF : hasB l n = false → offL nx l n x = l.take p ++ (n, x) :: l.drop p := fun h => by unfold offL; rw [hE, h, hp, putL_not _ _ _ h]; rfl
  obtain ⟨hb, hhb⟩ : ∃ hb, hb = hasB l n := ⟨_, rfl⟩
  obtain ⟨E, hEE⟩ : ∃ E, E = offE nx l n := ⟨_, rfl⟩
  obtain ⟨LL, hLL⟩ : ∃ LL, LL = offL nx l n x := ⟨_, rfl⟩
  rw [← hhb] at HBT HBF HE hLT hLF
  rw [← hEE] at HE ⊢
  rw [← hLL] at hLT hLF ⊢
  have HLT := Lib.hid hLT
  have HLF := Lib.hid hLF
  clear h hE hca ha hp hz hhb hEE hLL hLT hLF
  go_enter Try.func20, Try.ntmps20
  go_upto_block 0 with fail
  go_cut [7] from 22 to 42 (fun s7 wx => s7 = .int .i64 (p : Int) ∧ wx = w)
  case first =>
    go_wp2_with fail
    go_loopg [7] z (fun (gh : Nat) s7 wx => ∃ i : Nat, gh = z - i ∧ i ≤ p ∧ s7 = .int .i64 (i : Int) ∧ wx = w)
    case atStart => exact ⟨0, rfl, Nat.zero_le _, rfl, rfl⟩
    case round =>
      obtain ⟨i, rfl, hi, rfl, rfl⟩ := hrel
      by_cases hlt : i < z
      · have t1 : (i : Int) < (z : Int) := by omega
        have t2 : (0 : Int) ≤ (i : Int) := by omega
        have e9 : IntKind.i64.wrap ((i : Int) + 1) = ((i + 1 : Nat) : Int) := by rw [IntKind.wrap_i64]; omega
        obtain ⟨r, hr⟩ : ∃ r, l[i]? = some r := ⟨_, List.getElem?_eq_getElem (by have := HZ.out; omega)⟩
        obtain ⟨g, o, rfl, hg, hcell⟩ := HC.out (by have := HZ.out; omega)
        obtain ⟨k0, _⟩ := hcell i r hr
        have hiff := pl_iff l n HA.out i r hr
        rw [← HP.out, ltI] at hiff
        obtain ⟨q, hq⟩ : ∃ q, q = r.1 := ⟨_, rfl⟩
        rw [← hq] at k0 hiff
        have HI := Lib.hid hiff
        clear hcell hiff hr hq
        by_cases hqn : q < n
        · have hip : i < p := HI.out.1 (decide_eq_true hqn)
          have EM := Lib.hid (show (z - (i + 1) < z - i) by omega)
          clear hi
          go_wp2
          go_roundg (z - (i + 1))
          case measure => exact EM.out
          case rel => exact ⟨i + 1, rfl, hip, by go_num, rfl⟩
        · have hip : ¬ i < p := fun h => hqn (of_decide_eq_true (HI.out.2 h))
          obtain rfl : i = p := by omega
          go_wp2_with fail
          go_meet
          exact ⟨rfl, rfl⟩
      · obtain rfl : i = p := by omega
        have t1 : ¬ (i : Int) < (z : Int) := by omega
        go_wp2_with fail
        go_meet
        exact ⟨rfl, rfl⟩
  case rest =>
    obtain ⟨rfl, rfl⟩ := hcut
    go_upto_region 8 with fail
    go_cut [61] from 43 to 61 (fun s wx => s = .bool hb ∧ wx = wc)
    case first =>
      by_cases hpz : p < z
      · have t1 : (p : Int) < (z : Int) := by omega
        have t2 : (0 : Int) ≤ (p : Int) := by omega
        obtain ⟨r, hr⟩ : ∃ r, l[p]? = some r := ⟨_, List.getElem?_eq_getElem (by have := HZ.out; omega)⟩
        obtain ⟨g, o, rfl, hg, hcell⟩ := HC.out (by have := HZ.out; omega)
        obtain ⟨k0, _⟩ := hcell p r hr
        have hiff : r.1 = n ↔ hb = true := by
          constructor
          · exact HBF.out r hr
          · intro h3
            obtain ⟨v, h4⟩ := HBT.out h3
            rw [hr] at h4
            cases h4; rfl
        obtain ⟨q, hq⟩ : ∃ q, q = r.1 := ⟨_, rfl⟩
        rw [← hq] at k0 hiff
        have HI := Lib.hid hiff
        clear hcell hr hq hiff
        by_cases hqn : q = n
        · obtain rfl : hb = true := HI.out.1 hqn
          subst hqn
          go_wp2_with fail
          go_meet
          exact ⟨rfl, rfl⟩
        · obtain rfl : hb = false := by
            cases hb
            · rfl
            · exact absurd (HI.out.2 rfl) hqn
          have e3 : (q == n) = false := by simpa using hqn
          go_wp2_with fail
          go_meet
          exact ⟨rfl, rfl⟩
      · have t1 : ¬ (p : Int) < (z : Int) := by omega
        obtain rfl : hb = false := by
          cases hb
          · rfl
          · obtain ⟨v, h4⟩ := HBT.out rfl
            have h5 := (List.getElem?_eq_some_iff.1 h4).1
            have := HZ.out
            omega
        go_wp2_with fail
        go_meet
        exact ⟨rfl, rfl⟩
    case rest =>
      obtain ⟨rfl, rfl⟩ := hcut
      cases hb
      · obtain rfl : E = 0 := HE.out
        have HL2 := Lib.hid (HLF.out rfl)
        have hzl := HZ.out
        have hal : ∀ o : Obj, Below wc.heap.size wc (wc.alloc o) := fun o => (Below.refl _ _).alloc (Nat.le_refl _) _
        have hT1 : ThAt wc (.slice A p c) (l.take p) := by
          have := HT.out.part 0 p (by omega) A (fun g o e _ => by simpa using e) c (by omega)
          rw [List.drop_zero] at this
          exact this
        have hlt : (l.take p).length = p := by rw [List.length_take]; omega
        have hld : (l.drop p).length = z - p := by rw [List.length_drop]; omega
        obtain ⟨A1, c1', w1', r1, o1, g1⟩ := app_th (wc.alloc (.cells #[] 86)) wc.heap.size (.slice (some ⟨wc.heap.size, 0, none⟩) 0 0) [] (World.ownsRow_made wc #[] 0 (Nat.le_refl _) (Nat.zero_le _) rfl) _ _ (hT1.below (hal _)) (by rw [hlt]; simp; omega) (by simp)
        rw [hlt] at r1 o1
        simp only [List.length_nil, Nat.zero_add, List.nil_append] at r1 o1
        have b1 : Below wc.heap.size wc w1' := (hal _).grown g1 (by simp) (by intro k hk; have hk2 : wc.heap.size = k := Option.some.inj hk; omega)
        have hN : ThAt (w1'.alloc (.cells #[.int .i64 n, .int .i64 x] 86)) (.slice (some ⟨w1'.heap.size, 0, none⟩) 1 1) [(n, x)] := ⟨_, _, rfl, Nat.le_refl _, fun _ => ⟨_, 0, rfl, by simp, fun i r hi => by
          match i with
          | 0 =>
            simp at hi; subst hi
            have hb := block_new w1' (.cells #[.int .i64 n, .int .i64 x] 86)
            exact ⟨cell_of_row _ _ _ _ _ _ hb, cell_of_row _ _ _ _ _ _ hb⟩
          | i + 1 => simp at hi⟩⟩
        have o1' : thOf (w1'.alloc (.cells #[.int .i64 n, .int .i64 x] 86)) wc.heap.size (.slice A1 p c1') (l.take p) := by
          have := own_below (w' := w1'.alloc (.cells #[.int .i64 n, .int .i64 x] 86)) o1 ((Below.refl _ _).alloc (Nat.le_refl _) _)
          unfold thOf; exact this
        obtain ⟨A2, c2', w2', r2, o2, g2⟩ := app_th (w1'.alloc (.cells #[.int .i64 n, .int .i64 x] 86)) wc.heap.size (.slice A1 p c1') (l.take p) o1' _ [(n, x)] hN (by rw [hlt]; simp; omega) (by have := b1.size; simp; omega)
        rw [hlt] at r2 o2
        simp only [List.length_cons, List.length_nil, Nat.zero_add] at r2 o2
        have b1a : Below wc.heap.size wc (w1'.alloc (.cells #[.int .i64 n, .int .i64 x] 86)) := b1.alloc b1.size _
        have b2 : Below wc.heap.size wc w2' := b1a.trans (grown_base o1' g2 (Nat.le_refl _) b1a.size)
        have hl2 : (l.take p ++ [(n, x)]).length = p + 1 := by rw [List.length_append, hlt]; rfl
        have hT2 : ∀ A' c', (∀ g o, A = some ⟨g, o, none⟩ → 0 < z - p → A' = some ⟨g, o + p * 2, none⟩) → z - p ≤ c' → ∃ A3 c3 w3, (∀ ty, (Builtin.append_ #[52, 52] ty #[.slice A2 (p + 1) c2', .slice A' (z - p) c']).run Try.prog w2' = .ok (.slice A3 (p + 1 + (z - p)) c3) w3) ∧ ∃ sv', RefI (w3.setCell ⟨b, 1, none⟩ (.slice A3 (p + 1 + (z - p)) c3)) b nx sv' (l.take p ++ (n, x) :: l.drop p) ∧ Kept (fun i => i = b) wc (w3.setCell ⟨b, 1, none⟩ (.slice A3 (p + 1 + (z - p)) c3)) ∧ Nw wc (.slice A z c) sv' ∧ w3.cell? ⟨b, 1, none⟩ = some (.slice A z c) ∧ w3.frozen? ⟨b, 1, none⟩ = false := fun A' c' hA' hc' => by
          have h3 := HT.out.part p (z - p) (by omega) A' hA' c' hc'
          rw [List.take_of_length_le (by omega)] at h3
          obtain ⟨A3, c3', w3', r3, o3, g3⟩ := app_th w2' wc.heap.size (.slice A2 (p + 1) c2') (l.take p ++ [(n, x)]) o2 _ _ (h3.below b2) (by rw [hl2, hld]; omega) b2.size
          rw [hl2, hld] at r3 o3
          have b3 : Below wc.heap.size wc w3' := b2.trans (grown_base o2 g3 (Nat.le_refl _) b2.size)
          rw [List.append_assoc] at o3
          obtain ⟨q1, q2, q3⟩ := H.out.set b3 o3
          have q4 := H.out.blk.below b3
          rw [← hzl] at q3 q4
          exact ⟨A3, c3', w3', r3, _, q1, q2, q3, q4.c1, q4.f1⟩
        have HX1 := Lib.hid (fun (h0 : c = p) => hT2 A 0 (fun g o _ hp => by omega) (by omega))
        have HX2 := Lib.hid (hT2 (Option.map (fun x => x.add (p * 2)) A) (c - p) (fun g o e _ => by rw [e, Option.map_some, Addr.add_lit]) (by omega))
        have y0 : (wc.alloc (.cells #[] 86)).cell? ⟨b, 1, none⟩ = some (.slice A z c) := by have := (H.out.blk.below (hal (.cells #[] 86))).c1; rw [← hzl] at this; exact this
        have y1 : w1'.cell? ⟨b, 1, none⟩ = some (.slice A z c) := by have := (H.out.blk.below b1).c1; rw [← hzl] at this; exact this
        have y2 : w2'.cell? ⟨b, 1, none⟩ = some (.slice A z c) := by have := (H.out.blk.below b2).c1; rw [← hzl] at this; exact this
        have R1 := Lib.hid r1
        have R2 := Lib.hid r2
        obtain ⟨A3, c3, w3, r3, sv3, q31, q32, q33, q34, q35⟩ := HX2.out
        have R3 := Lib.hid r3
        have Q3 : Hid (∃ sv', RefI (w3.setCell ⟨b, 1, none⟩ (.slice A3 (p + 1 + (z - p)) c3)) b nx sv' LL ∧ Kept (fun i => i = b) wc (w3.setCell ⟨b, 1, none⟩ (.slice A3 (p + 1 + (z - p)) c3)) ∧ Nw wc (.slice A l.length c) sv') := by
          refine ⟨sv3, by rw [HL2.out]; exact q31, q32, by rw [← hzl]; exact q33⟩
        have HX4 : Hid (c = p → ∃ A3 c3 w3, (∀ ty, (Builtin.append_ #[52, 52] ty #[.slice A2 (p + 1) c2', .slice A (z - p) 0]).run Try.prog w2' = .ok (.slice A3 (p + 1 + (z - p)) c3) w3) ∧ (∃ sv', RefI (w3.setCell ⟨b, 1, none⟩ (.slice A3 (p + 1 + (z - p)) c3)) b nx sv' LL ∧ Kept (fun i => i = b) wc (w3.setCell ⟨b, 1, none⟩ (.slice A3 (p + 1 + (z - p)) c3)) ∧ Nw wc (.slice A l.length c) sv') ∧ w3.cell? ⟨b, 1, none⟩ = some (.slice A z c) ∧ w3.frozen? ⟨b, 1, none⟩ = false) := fun h0 => by
          obtain ⟨A3, c3, w3, r3, sv3, q31, q32, q33, q34, q35⟩ := HX1.out h0
          exact ⟨A3, c3, w3, r3, ⟨sv3, by rw [HL2.out]; exact q31, q32, by rw [← hzl]; exact q33⟩, q34, q35⟩
        clear r3 q31 q32 q33 HX1 HX2
        clear hT1 hlt hld r1 o1 g1 b1 hN o1' r2 o2 g2 b1a b2 hl2 hT2 hzl hal
        clear HBT HBF HE HT HC HA HP HZ HLT HLF
        by_cases e0 : c = p
        · obtain ⟨A4, c4, w4, r4, q4, q44, q45⟩ := HX4.out e0
          have R4 := Lib.hid r4
          have Q4 := Lib.hid q4
          obtain rfl : z = p := by omega
          subst e0
          rw [Nat.sub_self] at R4 Q4
          clear HX4 R3 Q3 q34 q35 r4 q4
          go_wp2_with (first
          | (at_builtin; refine wpList_app_run _ rfl _ _ 52 rfl (.slice A2 (c + 1) c2') (.slice A 0 0) rfl rfl (.slice A4 (c + 1 + 0) c4) w4 (R4.out _) ?_)
          | (at_builtin; refine wpList_app_run _ rfl _ _ 52 rfl (.slice A1 c c1') (.slice (some ⟨w1'.heap.size, 0, none⟩) 1 1) rfl rfl (.slice A2 (c + 1) c2') w2' (R2.out _) ?_)
          | (at_builtin; refine wpList_app_run _ rfl _ _ 52 rfl (.slice (some ⟨wc.heap.size, 0, none⟩) 0 0) (.slice A c c) rfl rfl (.slice A1 c c1') w1' (R1.out _) ?_))
          go_ret
          exact ⟨rfl, Q4.out⟩
        · clear HX4
          have t5 : ¬ c ≤ p := by omega
          go_wp2_with (first
          | (at_builtin; refine wpList_app_run _ rfl _ _ 52 rfl (.slice A2 (p + 1) c2') (.slice (Option.map (fun x => x.add (p * 2)) A) (z - p) (c - p)) rfl rfl (.slice A3 (p + 1 + (z - p)) c3) w3 (R3.out _) ?_)
          | (at_builtin; refine wpList_app_run _ rfl _ _ 52 rfl (.slice A1 p c1') (.slice (some ⟨w1'.heap.size, 0, none⟩) 1 1) rfl rfl (.slice A2 (p + 1) c2') w2' (R2.out _) ?_)
          | (at_builtin; refine wpList_app_run _ rfl _ _ 52 rfl (.slice (some ⟨wc.heap.size, 0, none⟩) 0 0) (.slice A p c) rfl rfl (.slice A1 p c1') w1' (R1.out _) ?_))
          go_ret
          exact ⟨rfl, Q3.out⟩
      · obtain rfl : E = 6 := HE.out
        obtain rfl : LL = l := HLT.out rfl
        clear HLT HLF HBT HBF HE
        go_wp2
        go_ret
        exact ⟨rfl, _, H.out, Kept.refl _ _, Nw.refl _ _⟩
theorem dropL_first {r : Rw} {t : List Rw} (hr : ∀ q ∈ r :: t, nx ≤ q.1) (hh : hasB (r :: t) nx = true) : dropL (r :: t) nx = t := by
  unfold dropL
  rw [if_pos hh, pl_zero hr]
  simp
set_option maxRecDepth 100000 in
theorem rpop_no (h : RefI w b nx sv l) (hr : ∀ r ∈ l, nx ≤ r.1) (hh : hasB l nx = false) : Calls Try.prog 22 #[.pointer (some ⟨b, 0, none⟩)] w fun e w' => e = .returned (.tuple #[.int .i64 0, .bool false]) ∧ Below w.heap.size w w' := by
  have hr := rready_any h hr
  have hz : rdy nx l = 0 := Ii.getL_not l nx hh
  rw [hh, hz] at hr
  have HR := Lib.hid hr
  clear h hh hr hz
  go_enter Try.func22, Try.ntmps22
  go_wp2_with (go_at_call 24; refine HR.out.mono ?_; rintro e w1 ⟨rfl, hb⟩)
  go_ret2
  exact ⟨rfl, hb⟩
set_option maxRecDepth 100000 in
set_option maxHeartbeats 1000000 in
theorem rpop_yes (h : RefI w b nx sv l) (hr : ∀ r ∈ l, nx ≤ r.1) (hl : l.length ≤ 16) (hh : hasB l nx = true) (hx0 : 0 ≤ nx) (hle : nx < 4398046511104) : Calls Try.prog 22 #[.pointer (some ⟨b, 0, none⟩)] w fun e w' => e = .returned (.tuple #[.int .i64 (rdy nx l), .bool true]) ∧ ∃ sv', RefI w' b (nx + 1) sv' (dropL l nx) ∧ Kept (fun i => i = b) w w' ∧ Nw w sv sv' := by
  have hrd := rready_any h hr
  rw [hh] at hrd
  obtain ⟨y, hy⟩ : ∃ y, y = rdy nx l := ⟨_, rfl⟩
  rw [← hy] at hrd ⊢
  cases l with
  | nil => cases hh
  | cons r t =>
    rw [dropL_first hr hh]
    obtain ⟨A, c, rfl, hzc, _⟩ := ThAt.of_own h.row
    have HT := Lib.hid (ThAt.of_own h.row)
    have H := Lib.hid h
    have HR := Lib.hid hrd
    obtain ⟨z, hz⟩ : ∃ z, z = (r :: t).length := ⟨_, rfl⟩
    have hz1 : 1 ≤ z := by rw [hz]; simp
    have htl : t.length = z - 1 := by rw [hz]; simp
    have HZ := Lib.hid hz
    rw [← hz] at hzc hl
    have e1 : IntKind.i64.wrap (nx + 1) = nx + 1 := by rw [IntKind.wrap_i64]; omega
    have HX : Hid (∀ w1, Below w.heap.size w w1 → ∀ A' c', (∀ g o, A = some ⟨g, o, none⟩ → 0 < z - 1 → A' = some ⟨g, o + 1 * 2, none⟩) → z - 1 ≤ c' → ∃ A3 c3 w3, (∀ ty, (Builtin.append_ #[52, 52] ty #[.slice (some ⟨w1.heap.size, 0, none⟩) 0 0, .slice A' (z - 1) c']).run Try.prog (w1.alloc (.cells #[] 86)) = .ok (.slice A3 (z - 1) c3) w3) ∧ ((w3.cell? ⟨b, 1, none⟩ = some (.slice A z c) ∧ w3.frozen? ⟨b, 1, none⟩ = false) ∧ ((w3.setCell ⟨b, 1, none⟩ (.slice A3 (z - 1) c3)).cell? ⟨b, 0, none⟩ = some (.int .i64 nx) ∧ (w3.setCell ⟨b, 1, none⟩ (.slice A3 (z - 1) c3)).frozen? ⟨b, 0, none⟩ = false)) ∧ ∃ sv', RefI ((w3.setCell ⟨b, 1, none⟩ (.slice A3 (z - 1) c3)).setCell ⟨b, 0, none⟩ (.int .i64 (nx + 1))) b (nx + 1) sv' t ∧ Kept (fun i => i = b) w ((w3.setCell ⟨b, 1, none⟩ (.slice A3 (z - 1) c3)).setCell ⟨b, 0, none⟩ (.int .i64 (nx + 1))) ∧ Nw w (.slice A (r :: t).length c) sv') := fun w1 hb A' c' hA' hc' => by
      have h3 := HT.out.part 1 (z - 1) (by rw [← HZ.out]; omega) A' hA' c' hc'
      rw [List.drop_one, List.tail_cons, List.take_of_length_le (by omega)] at h3
      have hal : Below w.heap.size w (w1.alloc (.cells #[] 86)) := hb.alloc hb.size _
      obtain ⟨A3, c3', w3', r3, o3, g3⟩ := app_th (w1.alloc (.cells #[] 86)) w1.heap.size (.slice (some ⟨w1.heap.size, 0, none⟩) 0 0) [] (World.ownsRow_made w1 #[] 0 (Nat.le_refl _) (Nat.zero_le _) rfl) _ _ (h3.below hal) (by rw [htl]; simp; omega) (by simp)
      rw [htl] at r3 o3
      simp only [List.length_nil, Nat.zero_add, List.nil_append] at r3 o3
      have b3 : Below w.heap.size w w3' := hal.grown g3 (by have := hb.size; simp; omega) (by intro k hk; have hk2 : w1.heap.size = k := Option.some.inj hk; have := hb.size; omega)
      have o4 : thOf w3' w.heap.size (.slice A3 (z - 1) c3') t := by
        obtain ⟨o5, o6⟩ := o3
        refine ⟨o5, ?_⟩
        rcases o6 with o6 | ⟨g, cap, cur, p1, p2, p3⟩
        · exact .inl o6
        · exact .inr ⟨g, cap, cur, p1, Nat.le_trans hb.size p2, p3⟩
      have q4 := H.out.blk.below b3
      rw [← HZ.out] at q4
      obtain ⟨q1, q2, q3⟩ := H.out.set b3 o4
      exact ⟨A3, c3', w3', r3, ⟨⟨q4.c1, q4.f1⟩, q1.blk.c0, q1.blk.f0⟩, _, ⟨q1.blk.set0 _, own_keep q1.row (Kept.of_set _ ⟨b, 0, none⟩ _) (fun i hi e => q1.ne (by rw [hi, show i = b from e]))⟩, q2.trans (Kept.of_set _ ⟨b, 0, none⟩ _), q3⟩
    have hc1 : ∀ w1, Below w.heap.size w w1 → w1.cell? ⟨b, 1, none⟩ = some (.slice A z c) ∧ (w1.alloc (.cells #[] 86)).cell? ⟨b, 1, none⟩ = some (.slice A z c) := fun w1 hb => by
      have q4 := H.out.blk.below hb
      have q5 := H.out.blk.below (hb.alloc hb.size (.cells #[] 86))
      rw [← HZ.out] at q4 q5
      exact ⟨q4.c1, q5.c1⟩
    have HC1 := Lib.hid hc1
    clear hr hrd hh hy h hz htl hc1 HT
    by_cases e0 : c = 1
    · obtain rfl : z = 1 := by omega
      subst e0
      go_enter Try.func22, Try.ntmps22
      go_wp2_with (first
        | (go_at_call 24; refine HR.out.mono ?_; rintro e w1 ⟨rfl, hb⟩; obtain ⟨y1, y0⟩ := HC1.out _ hb; obtain ⟨A3, c3, w3, r3, ⟨⟨y3, y4⟩, y5, y6⟩, hq⟩ := HX.out w1 hb A 0 (fun g o _ hp => by omega) (by omega); have R3 := Lib.hid r3; have Q3 := Lib.hid hq; clear r3 hq hb)
        | (at_builtin; refine wpList_app_run _ rfl _ _ 52 rfl (.slice (some ⟨w1.heap.size, 0, none⟩) 0 0) (.slice A 0 0) rfl rfl (.slice A3 0 c3) w3 (R3.out _) ?_))
      go_ret2
      exact ⟨rfl, Q3.out⟩
    · have t5 : ¬ c ≤ 1 := by omega
      go_enter Try.func22, Try.ntmps22
      go_wp2_with (first
        | (go_at_call 24; refine HR.out.mono ?_; rintro e w1 ⟨rfl, hb⟩; obtain ⟨y1, y0⟩ := HC1.out _ hb; obtain ⟨A3, c3, w3, r3, ⟨⟨y3, y4⟩, y5, y6⟩, hq⟩ := HX.out w1 hb (Option.map (fun x => x.add 2) A) (c - 1) (fun g o e _ => by rw [e, Option.map_some, Addr.add_lit]) (by omega); have R3 := Lib.hid r3; have Q3 := Lib.hid hq; clear r3 hq hb)
        | (at_builtin; refine wpList_app_run _ rfl _ _ 52 rfl (.slice (some ⟨w1.heap.size, 0, none⟩) 0 0) (.slice (Option.map (fun x => x.add 2) A) (z - 1) (c - 1)) rfl rfl (.slice A3 (z - 1) c3) w3 (R3.out _) ?_))
      go_ret2
      exact ⟨rfl, Q3.out⟩
set_option maxRecDepth 100000 in
set_option maxHeartbeats 1000000 in
theorem rkept_any (h : RefI w b nx sv l) (hl : l.length ≤ 16) : Calls Try.prog 27 #[.pointer (some ⟨b, 0, none⟩)] w fun e w' => ∃ A c, e = .returned (.slice A l.length c) ∧ At w' (.slice A l.length c) (keys l) ∧ Below w.heap.size w w' := by
  obtain ⟨A, c, rfl, hzc, hca⟩ := ThAt.of_own h.row
  have HC := Lib.hid hca
  have H := Lib.hid h
  obtain ⟨z, hz⟩ : ∃ z, z = l.length := ⟨_, rfl⟩
  have HZ := Lib.hid hz
  rw [← hz] at hl hzc ⊢
  clear h hca hz
  go_enter Try.func27, Try.ntmps27
  go_wp2
  go_loopg [3, 4] z (fun (gh : Nat) s3 s4 wx => ∃ (i : Nat) (A3 : Option Addr) (c3 : Nat), gh = z - i ∧ i ≤ z ∧ s4 = .int .i64 (i : Int) ∧ s3 = .slice A3 i c3 ∧ Hid (rowOf wx w.heap.size (.slice A3 i c3) (keys (l.take i)) ∧ Below w.heap.size w wx))
  case atStart => exact ⟨0, none, 0, rfl, Nat.zero_le _, rfl, rfl, World.ownsRow_nil _ _ _ _, Below.refl _ _⟩
  case round =>
    obtain ⟨i, A3, c3, rfl, hi, rfl, rfl, HR⟩ := hrel
    have c1 : wr.cell? ⟨b, 1, none⟩ = some (.slice A z c) := by
      have := (H.out.blk.below HR.out.2).c1
      rw [← HZ.out] at this; exact this
    by_cases hlt : i < z
    · have t1 : (i : Int) < (z : Int) := by omega
      have t2 : (0 : Int) ≤ (i : Int) := by omega
      have e9 : IntKind.i64.wrap ((i : Int) + 1) = ((i + 1 : Nat) : Int) := by rw [IntKind.wrap_i64]; omega
      obtain ⟨r, hr⟩ : ∃ r, l[i]? = some r := ⟨_, List.getElem?_eq_getElem (by have := HZ.out; omega)⟩
      obtain ⟨g, o, rfl, hg, hcell⟩ := HC.out (by have := HZ.out; omega)
      obtain ⟨k0, _⟩ := hcell i r hr
      have k1 : wr.cell? ⟨g, o + i * 2, none⟩ = some (.int .i64 r.1) := (HR.out.2.cell (p := ⟨g, o + i * 2, none⟩) hg).trans k0
      have hts : l.take (i + 1) = l.take i ++ [r] := by
        rw [List.take_succ_eq_append_getElem (by have := HZ.out; omega)]
        rw [List.getElem?_eq_getElem (by have := HZ.out; omega)] at hr
        rw [Option.some.inj hr]
      have hkl : (keys (l.take i)).length = i := by rw [keys_len, List.length_take]; have := HZ.out; omega
      obtain ⟨q, hq⟩ : ∃ q, q = r.1 := ⟨_, rfl⟩
      rw [← hq] at k1
      have hb1 : Below w.heap.size w (wr.alloc (.cells #[.int .i64 q] 3)) := HR.out.2.alloc HR.out.2.size _
      have ho1 : rowOf (wr.alloc (.cells #[.int .i64 q] 3)) w.heap.size (.slice A3 i c3) (keys (l.take i)) := own_below HR.out.1 ((Below.refl _ _).alloc (Nat.le_refl _) _)
      obtain ⟨A4, c4, w4, r4, o4, g4, _⟩ := app_any (wr.alloc (.cells #[.int .i64 q] 3)) w.heap.size (.slice A3 i c3) (keys (l.take i)) ho1 (.slice (some ⟨wr.heap.size, 0, none⟩) 1 1) [q] ⟨_, _, rfl, Nat.le_refl _, fun _ => ⟨_, 0, rfl, by simp, fun j y hj => by
        match j with
        | 0 => simp at hj; subst hj; exact cell_of_row _ _ _ _ _ _ (block_new wr _)
        | j + 1 => simp at hj⟩⟩ (by rw [hkl]; simp; omega) hb1.size
      rw [hkl] at r4 o4
      simp only [List.length_cons, List.length_nil, Nat.zero_add] at r4 o4
      have R4 := Lib.hid r4
      have H4 : Hid (rowOf w4 w.heap.size (.slice A4 (i + 1) c4) (keys (l.take (i + 1))) ∧ Below w.heap.size w w4) := by
        refine ⟨?_, hb1.trans (grown_base ho1 g4 (Nat.le_refl _) hb1.size)⟩
        have e : keys (l.take (i + 1)) = keys (l.take i) ++ [q] := by rw [hts, hq]; simp [keys]
        rw [e]; exact o4
      have EM := Lib.hid (show (z - (i + 1) < z - i) by omega)
      clear hr hcell hts hkl hq hb1 ho1 r4 o4 g4 hi HR
      go_wp2_with (at_builtin; refine wpList_app_run _ rfl _ _ 24 rfl (.slice A3 i c3) (.slice (some ⟨wr.heap.size, 0, none⟩) 1 1) rfl rfl (.slice A4 (i + 1) c4) w4 (R4.out _) ?_)
      go_roundg (z - (i + 1))
      case measure => exact EM.out
      case rel => exact ⟨i + 1, A4, c4, rfl, hlt, by go_num, rfl, H4⟩
    · obtain rfl : i = z := by omega
      have HF : Hid (At wr (.slice A3 i c3) (keys l)) := by
        have h1 := At.of_own HR.out.1
        rw [List.take_of_length_le (by have := HZ.out; omega)] at h1
        exact h1
      have HB := Lib.hid HR.out.2
      clear HR
      go_wp2
      go_ret
      exact ⟨_, _, rfl, HF.out, HB.out⟩
end
end Go.Proofs.Ytaidihilhblhgaa.Wi.I
