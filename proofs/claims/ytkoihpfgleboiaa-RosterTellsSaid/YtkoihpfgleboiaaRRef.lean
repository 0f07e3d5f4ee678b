/-
  The contracts of the reference's Home, Has and Route. Conditions: at most a thousand rows; Route: texts of at most 100000 bytes.
-/
import Derived.Test.YtkoihpfgleboiaaRChk
import Derived.Test.YtkoihpfgleboiaaRRte
import Derived.Test.YtkoihpfgleboiaaYRChk
import Derived.Test.YtkoihpfgleboiaaRQuiet
namespace Go.Proofs.Ytkoihpfgleboiaa.Ro
open Go.RowKit Tb Td

/-- The first member's home of that name; below 0: none. -/
def homeL (ms : List (ByteArray × Int)) (s : ByteArray) : Int := match ms.find? fun m => decide (m.1 = s) with | some m => m.2 | none => -1
theorem homeL_at {ms : List (ByteArray × Int)} {s : ByteArray} {i : Nat} {m : ByteArray × Int} (h : ms[i]? = some m) (hm : m.1 = s) (hno : ∀ (j : Nat) (m' : ByteArray × Int), j < i → ms[j]? = some m' → m'.1 ≠ s) : homeL ms s = m.2 := by
  unfold homeL
  have hl := (List.getElem?_eq_some_iff.1 h).1
  have he := (List.getElem?_eq_some_iff.1 h).2
  have : ms.find? (fun m => decide (m.1 = s)) = some m := by
    rw [← List.take_append_drop i ms, List.find?_append, List.drop_eq_getElem_cons hl, he]
    have h0 : (ms.take i).find? (fun m => decide (m.1 = s)) = none := by
      rw [List.find?_eq_none]
      intro x hx
      obtain ⟨k, hk, e⟩ := (mem_take ms i x).1 hx
      simpa using hno k x hk e
    rw [h0]
    simp [hm]
  rw [this]
theorem homeL_none {ms : List (ByteArray × Int)} {s : ByteArray} (hno : ∀ (j : Nat) (m' : ByteArray × Int), ms[j]? = some m' → m'.1 ≠ s) : homeL ms s = -1 := by
  unfold homeL
  have : ms.find? (fun m => decide (m.1 = s)) = none := by
    rw [List.find?_eq_none]
    intro x hx
    obtain ⟨k, hk⟩ := List.mem_iff_getElem?.1 hx
    simpa using hno k x hk
  rw [this]
/-- Is it one of these? -/
def hasL (ss : List ByteArray) (s : ByteArray) : Bool := ss.any fun t => decide (t = s)
theorem hasL_iff (ss : List ByteArray) (s : ByteArray) : hasL ss s = true ↔ s ∈ ss := by
  unfold hasL
  rw [List.any_eq_true]
  constructor
  · rintro ⟨t, ht, e⟩
    have : t = s := by simpa using e
    exact this ▸ ht
  · intro h
    exact ⟨s, h, by simp⟩
theorem hasL_no {ss : List ByteArray} {s : ByteArray} (h : ¬ s ∈ ss) : hasL ss s = false := by
  cases e : hasL ss s
  · rfl
  · exact absurd ((hasL_iff ss s).1 e) h

set_option maxRecDepth 100000 in
set_option maxHeartbeats 2000000 in
theorem rhome_any (w : World) (n : Int) (A : Option Addr) (c1 k1 : Nat) (B : Option Addr) (c2 : Nat) (ms : List (ByteArray × Int)) (s : ByteArray) (hm : MRd w B ms) (hn : ms.length ≤ 1000) :
    Calls Try.prog 13 #[.agg #[.int .i64 n, .slice A k1 c1, .slice B ms.length c2], .string s] w fun e w' => e = .returned (.int .i64 (homeL ms s)) ∧ Below w.heap.size w w' := by
  have hbx := block_new w (.cells #[.int .i64 n, .slice A k1 c1, .slice B ms.length c2] 25)
  have hB0 : Below w.heap.size w (w.alloc (.cells #[.int .i64 n, .slice A k1 c1, .slice B ms.length c2] 25)) := (Below.refl _ _).alloc (Nat.le_refl _) _
  obtain ⟨r, hr⟩ : ∃ r, r = homeL ms s := ⟨_, rfl⟩
  have HR := Lib.hid hr
  rw [← hr]
  obtain ⟨W0, hW0⟩ : ∃ W0, W0 = w.alloc (.cells #[.int .i64 n, .slice A k1 c1, .slice B ms.length c2] 25) := ⟨_, rfl⟩
  have HM : Hid (MRd W0 B ms) := by rw [hW0]; exact hm.below hB0
  rw [← hW0] at hbx hB0
  have HBX := Lib.hid hbx
  have HB0 := Lib.hid hB0
  clear hr hm hbx hB0
  go_enter Try.func13, Try.ntmps13
  go_wp2
  rw [← hW0]
  clear hW0
  go_loopg [5] ms.length (fun (gh : Nat) si wx => ∃ i : Nat, gh = ms.length - i ∧ i ≤ ms.length ∧ si = .int .i64 (i : Int) ∧ Hid (Below W0.heap.size W0 wx ∧ ∀ j m', j < i → ms[j]? = some m' → m'.1 ≠ s))
  case atStart => exact ⟨0, rfl, Nat.zero_le _, rfl, Below.refl _ _, fun j m' h => by omega⟩
  case round =>
    obtain ⟨i, rfl, hi, rfl, hinv⟩ := hrel
    have hbel := hinv.out.1
    obtain ⟨⟨x0, x1, x2⟩, _⟩ := blk3 (block_kept HBX.out hbel)
    by_cases hlt : i < ms.length
    · obtain ⟨m, hm⟩ : ∃ m, ms[i]? = some m := ⟨_, List.getElem?_eq_getElem hlt⟩
      rcases HM.out with h0 | ⟨g, o, rfl, hg, hcell⟩
      · rw [h0] at hm; simp at hm
      have hcm := hcell i m hm
      have d1 := (hbel.cell (p := ⟨g, o + i * 2, none⟩) hg).trans hcm.1
      have d2 := (hbel.cell (p := ⟨g, o + i * 2 + 1, none⟩) hg).trans hcm.2
      have t1 : (i : Int) < (ms.length : Int) := by omega
      have t2 : (0 : Int) ≤ (i : Int) := by omega
      have HB := Lib.hid hbel
      have HNO := Lib.hid hinv.out.2
      have HMI := Lib.hid hm
      clear hcm hcell hbel hinv hm
      by_cases hs : m.1 = s
      · have e1 : (m.1.toList == s.toList) = true := by rw [Tb.beqS]; exact decide_eq_true hs
        have HRR : Hid (r = m.2) := by show _ = _; rw [HR.out]; exact homeL_at HMI.out hs HNO.out
        clear hs
        go_wp2
        go_ret
        rw [HRR.out]
        exact ⟨rfl, HB0.out.trans (HB.out.mono HB0.out.size)⟩
      · have e1 : (m.1.toList == s.toList) = false := by rw [Tb.beqS]; exact decide_eq_false hs
        have HNX : Hid (∀ j m', j < i + 1 → ms[j]? = some m' → m'.1 ≠ s) := fun j m' hj h => by
          rcases Nat.lt_or_ge j i with h1 | h1
          · exact HNO.out j m' h1 h
          · have : j = i := by omega
            subst this
            rw [HMI.out] at h
            exact (Option.some.inj h) ▸ hs
        clear hs
        go_wp2
        go_roundg (ms.length - (i + 1))
        case measure => omega
        case rel => exact ⟨i + 1, rfl, by omega, by go_num, HB.out, HNX.out⟩
    · obtain rfl : i = ms.length := by omega
      have HB := Lib.hid hbel
      have HRR : Hid (r = -1) := by
        show _ = _
        rw [HR.out]
        exact homeL_none fun j m' h => hinv.out.2 j m' (List.getElem?_eq_some_iff.1 h).1 h
      clear hbel hinv
      go_wp2
      go_ret
      rw [HRR.out]
      exact ⟨rfl, HB0.out.trans (HB.out.mono HB0.out.size)⟩

set_option maxRecDepth 100000 in
set_option maxHeartbeats 2000000 in
theorem rhas_any (w : World) (n : Int) (A : Option Addr) (c1 : Nat) (ss : List ByteArray) (B : Option Addr) (k2 c2 : Nat) (s : ByteArray) (hm : SRd w A ss) (hn : ss.length ≤ 1000) :
    Calls Try.prog 20 #[.agg #[.int .i64 n, .slice A ss.length c1, .slice B k2 c2], .string s] w fun e w' => e = .returned (.bool (hasL ss s)) ∧ Below w.heap.size w w' := by
  have hbx := block_new w (.cells #[.int .i64 n, .slice A ss.length c1, .slice B k2 c2] 25)
  have hB0 : Below w.heap.size w (w.alloc (.cells #[.int .i64 n, .slice A ss.length c1, .slice B k2 c2] 25)) := (Below.refl _ _).alloc (Nat.le_refl _) _
  obtain ⟨r, hr⟩ : ∃ r, r = hasL ss s := ⟨_, rfl⟩
  have HR := Lib.hid hr
  rw [← hr]
  obtain ⟨W0, hW0⟩ : ∃ W0, W0 = w.alloc (.cells #[.int .i64 n, .slice A ss.length c1, .slice B k2 c2] 25) := ⟨_, rfl⟩
  have HM : Hid (SRd W0 A ss) := by rw [hW0]; exact hm.below hB0
  rw [← hW0] at hbx hB0
  have HBX := Lib.hid hbx
  have HB0 := Lib.hid hB0
  clear hr hm hbx hB0
  go_enter Try.func20, Try.ntmps20
  go_wp2
  rw [← hW0]
  clear hW0
  go_loopg [5] ss.length (fun (gh : Nat) si wx => ∃ i : Nat, gh = ss.length - i ∧ i ≤ ss.length ∧ si = .int .i64 (i : Int) ∧ Hid (Below W0.heap.size W0 wx ∧ ∀ j, j < i → ss[j]? ≠ some s))
  case atStart => exact ⟨0, rfl, Nat.zero_le _, rfl, Below.refl _ _, fun j h => by omega⟩
  case round =>
    obtain ⟨i, rfl, hi, rfl, hinv⟩ := hrel
    have hbel := hinv.out.1
    obtain ⟨⟨x0, x1, x2⟩, _⟩ := blk3 (block_kept HBX.out hbel)
    by_cases hlt : i < ss.length
    · obtain ⟨t, hm⟩ : ∃ m, ss[i]? = some m := ⟨_, List.getElem?_eq_getElem hlt⟩
      rcases HM.out with h0 | ⟨g, o, rfl, hg, hcell⟩
      · rw [h0] at hm; simp at hm
      have d1 := (hbel.cell (p := ⟨g, o + i, none⟩) hg).trans (hcell i t hm)
      have t1 : (i : Int) < (ss.length : Int) := by omega
      have t2 : (0 : Int) ≤ (i : Int) := by omega
      have HB := Lib.hid hbel
      have HNO := Lib.hid hinv.out.2
      have HMI := Lib.hid hm
      clear hcell hbel hinv hm
      by_cases hs : t = s
      · have e1 : (t.toList == s.toList) = true := by rw [Tb.beqS]; exact decide_eq_true hs
        have HRR : Hid (r = true) := by show _ = _; rw [HR.out]; exact (hasL_iff ss s).2 (hs ▸ List.mem_of_getElem? HMI.out)
        clear hs
        go_wp2
        go_ret
        rw [HRR.out]
        exact ⟨rfl, HB0.out.trans (HB.out.mono HB0.out.size)⟩
      · have e1 : (t.toList == s.toList) = false := by rw [Tb.beqS]; exact decide_eq_false hs
        have HNX : Hid (∀ j, j < i + 1 → ss[j]? ≠ some s) := fun j hj h => by
          rcases Nat.lt_or_ge j i with h1 | h1
          · exact HNO.out j h1 h
          · have : j = i := by omega
            subst this
            rw [HMI.out] at h
            exact hs (Option.some.inj h)
        clear hs
        go_wp2
        go_roundg (ss.length - (i + 1))
        case measure => omega
        case rel => exact ⟨i + 1, rfl, by omega, by go_num, HB.out, HNX.out⟩
    · obtain rfl : i = ss.length := by omega
      have HB := Lib.hid hbel
      have HRR : Hid (r = false) := by
        show _ = _
        rw [HR.out]
        refine hasL_no fun h => ?_
        obtain ⟨j, hj⟩ := List.mem_iff_getElem?.1 h
        exact hinv.out.2 j (List.getElem?_eq_some_iff.1 hj).1 hj
      clear hbel hinv
      go_wp2
      go_ret
      rw [HRR.out]
      exact ⟨rfl, HB0.out.trans (HB.out.mono HB0.out.size)⟩

/-- The document's route. -/
def routeR (ss : List ByteArray) (ms : List (ByteArray × Int)) (x : Tr) : Int × Int × Int :=
  if chk x = 0 then (if homeL ms x.b < 0 ∨ homeL ms x.s < 0 ∨ hasL ss x.i = false then (0, 0, 5) else (homeL ms x.b, homeL ms x.s, 0)) else (0, 0, chk x)

set_option maxRecDepth 100000 in
set_option maxHeartbeats 4000000 in
theorem rroute_any (w : World) (n : Int) (A : Option Addr) (c1 : Nat) (ss : List ByteArray) (B : Option Addr) (c2 : Nat) (ms : List (ByteArray × Int)) (x : Tr) (hs : SRd w A ss) (hm : MRd w B ms) (n1 : ss.length ≤ 1000) (n2 : ms.length ≤ 1000) (hx : Sm x) {r0 r1 r2 : Int} (hr : Hid ((r0, r1, r2) = routeR ss ms x)) :
    Calls Try.prog 25 #[.agg #[.int .i64 n, .slice A ss.length c1, .slice B ms.length c2], .agg #[.int .i64 x.n, .string x.b, .string x.s, .string x.i, .int .i64 x.q, .int .i64 x.p]] w fun e w' => e = .returned (.tuple #[.int .i64 r0, .int .i64 r1, .int .i64 r2]) ∧ Below w.heap.size w w' := by
  have E0 := two_box w (.cells #[.int .i64 n, .slice A ss.length c1, .slice B ms.length c2] 25) (.cells #[.int .i64 x.n, .string x.b, .string x.s, .string x.i, .int .i64 x.q, .int .i64 x.p] 49)
  have HH : ∀ s, Hid (∀ W, Below w.heap.size w W → Calls Try.prog 13 #[.agg #[.int .i64 n, .slice A ss.length c1, .slice B ms.length c2], .string s] W fun e w' => e = .returned (.int .i64 (homeL ms s)) ∧ Below W.heap.size W w') := fun s W hW =>
    rhome_any W n A c1 ss.length B c2 ms s (hm.below hW) n2
  have HA : Hid (∀ W, Below w.heap.size w W → Calls Try.prog 20 #[.agg #[.int .i64 n, .slice A ss.length c1, .slice B ms.length c2], .string x.i] W fun e w' => e = .returned (.bool (hasL ss x.i)) ∧ Below W.heap.size W w') := fun W hW =>
    rhas_any W n A c1 ss B ms.length c2 x.i (hs.below hW) n1
  have H1 := HH x.b
  have H2 := HH x.s
  obtain ⟨c, hc⟩ : ∃ c, c = chk x := ⟨_, rfl⟩
  have HC := fun W => Lib.hid (Td.rcheck_any W x hx (Lib.hid hc))
  have hr' := hr.out
  unfold routeR at hr'
  rw [← hc] at hr'
  obtain ⟨g1, hg1⟩ : ∃ g, g = homeL ms x.b := ⟨_, rfl⟩
  obtain ⟨g2, hg2⟩ : ∃ g, g = homeL ms x.s := ⟨_, rfl⟩
  obtain ⟨q, hq⟩ : ∃ q, q = hasL ss x.i := ⟨_, rfl⟩
  rw [← hg1] at H1
  rw [← hg2] at H2
  rw [← hq] at HA
  rw [← hg1, ← hg2, ← hq] at hr'
  obtain ⟨k1, hk1⟩ : ∃ k, k = ss.length := ⟨_, rfl⟩
  obtain ⟨k2, hk2⟩ : ∃ k, k = ms.length := ⟨_, rfl⟩
  rw [← hk1, ← hk2] at E0 H1 H2 HA ⊢
  clear HH hc hs hm hx hr hg1 hg2 hq hk1 hk2 n1 n2
  obtain ⟨W0, hW0⟩ : ∃ W0, W0 = (w.alloc (.cells #[.int .i64 n, .slice A k1 c1, .slice B k2 c2] 25)).alloc (.cells #[.int .i64 x.n, .string x.b, .string x.s, .string x.i, .int .i64 x.q, .int .i64 x.p] 49) := ⟨_, rfl⟩
  rw [← hW0] at E0
  have HBX := Lib.hid E0.1
  have HTX := Lib.hid E0.2.1
  have HB0 := Lib.hid E0.2.2
  clear E0
  by_cases hz : c = 0
  · subst hz
    rw [if_pos rfl] at hr'
    go_enter Try.func25, Try.ntmps25
    go_upto_region 1 with fail
    rw [← hW0]
    clear hW0
    obtain ⟨t0, t1, t2, t3, t4, t5⟩ := blk6 HTX.out
    go_wp2_with (go_at_call 28; refine (HC _).out.mono ?_; rintro e w1 ⟨rfl, hb1⟩; have HB1 := Lib.hid hb1; clear hb1)
    have HX := Lib.hid (blk3 (block_kept HBX.out HB1.out)).1
    have HT := Lib.hid (blk6 (block_kept HTX.out HB1.out))
    have HBW := Lib.hid (HB0.out.trans (HB1.out.mono HB0.out.size))
    have y0 : ∀ p : InW w1, p.val.cell? ⟨w.heap.size, 0, none⟩ = some (.int .i64 n) := fun p => p.cell HX.out.1
    have y1 : ∀ p : InW w1, p.val.cell? ⟨w.heap.size, 1, none⟩ = some (.slice A k1 c1) := fun p => p.cell HX.out.2.1
    have y2 : ∀ p : InW w1, p.val.cell? ⟨w.heap.size, 2, none⟩ = some (.slice B k2 c2) := fun p => p.cell HX.out.2.2
    have z1 : ∀ p : InW w1, p.val.cell? ⟨w.heap.size + 1, 1, none⟩ = some (.string x.b) := fun p => p.cell HT.out.2.1
    have z2 : ∀ p : InW w1, p.val.cell? ⟨w.heap.size + 1, 2, none⟩ = some (.string x.s) := fun p => p.cell HT.out.2.2.1
    have C1 : Hid (∀ p : InW w1, Calls Try.prog 13 #[.agg #[.int .i64 n, .slice A k1 c1, .slice B k2 c2], .string x.b] p.val fun e w' => e = .returned (.int .i64 g1) ∧ ∃ q : InW w1, w' = q.val) := fun p => calls_in (H1.out p.val (HBW.out.trans (p.bel.mono HBW.out.size)))
    have C2 : Hid (∀ p : InW w1, Calls Try.prog 13 #[.agg #[.int .i64 n, .slice A k1 c1, .slice B k2 c2], .string x.s] p.val fun e w' => e = .returned (.int .i64 g2) ∧ ∃ q : InW w1, w' = q.val) := fun p => calls_in (H2.out p.val (HBW.out.trans (p.bel.mono HBW.out.size)))
    clear t0 t1 t2 t3 t4 t5
    refine wp_region_below (W := w1) (by kernel_rfl) (by kernel_rfl) (Below.refl _ _) ?_
    repeat (go_big_quiet_step ((first | (go_at_call 13; (with_reducible exact C1.out _)) | (go_at_call 13; (with_reducible exact C2.out _)))))
    refine wpQuiet_nil ?_
    rintro _ ⟨⟨wq, hbq⟩, rfl⟩
    clear y0 y1 y2 z1 z2
    have HBQ := Lib.hid hbq
    clear hbq
    obtain ⟨q0, q1, q2⟩ := (blk3 (block_kept (block_kept HBX.out HB1.out) HBQ.out)).1
    obtain ⟨t0, t1, t2, t3, t4, t5⟩ := blk6 (block_kept (block_kept HTX.out HB1.out) HBQ.out)
    have HBE := Lib.hid (HBW.out.trans (HBQ.out.mono HBW.out.size))
    by_cases hg1 : g1 < 0
    · rw [if_pos (.inl hg1)] at hr'
      simp only [Prod.mk.injEq] at hr'
      obtain ⟨rfl, rfl, rfl⟩ := hr'
      go_wp2
      go_ret3
      exact ⟨rfl, HBE.out⟩
    · by_cases hg2 : g2 < 0
      · rw [if_pos (.inr (.inl hg2))] at hr'
        simp only [Prod.mk.injEq] at hr'
        obtain ⟨rfl, rfl, rfl⟩ := hr'
        go_wp2
        go_ret3
        exact ⟨rfl, HBE.out⟩
      · cases q
        · rw [if_pos (.inr (.inr rfl))] at hr'
          simp only [Prod.mk.injEq] at hr'
          obtain ⟨rfl, rfl, rfl⟩ := hr'
          go_wp2_with (go_at_call 20; refine (HA.out _ HBE.out).mono ?_; rintro e w3 ⟨rfl, hb3⟩)
          go_ret3
          exact ⟨rfl, HBE.out.trans (hb3.mono HBE.out.size)⟩
        · rw [if_neg (by simp; omega)] at hr'
          simp only [Prod.mk.injEq] at hr'
          obtain ⟨rfl, rfl, rfl⟩ := hr'
          go_wp2_with (go_at_call 20; refine (HA.out _ HBE.out).mono ?_; rintro e w3 ⟨rfl, hb3⟩)
          go_ret3
          exact ⟨rfl, HBE.out.trans (hb3.mono HBE.out.size)⟩
  · rw [if_neg hz] at hr'
    simp only [Prod.mk.injEq] at hr'
    obtain ⟨rfl, rfl, rfl⟩ := hr'
    have hb : (r2 != 0) = true := by simpa using hz
    go_enter Try.func25, Try.ntmps25
    go_upto_region 1 with fail
    rw [← hW0]
    clear hW0
    obtain ⟨t0, t1, t2, t3, t4, t5⟩ := blk6 HTX.out
    go_wp2_with (go_at_call 28; refine (HC _).out.mono ?_; rintro e w1 ⟨rfl, hb1⟩)
    go_ret3
    exact ⟨rfl, HB0.out.trans (hb1.mono HB0.out.size)⟩
end Go.Proofs.Ytkoihpfgleboiaa.Ro
