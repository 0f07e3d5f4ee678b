/-
  VaultEnds' law. Conditions: none.
-/
import Derived.Test.YtjijgoflbjbnfaaGreatVM32
import Derived.Test.YtjijgoflbjbnfaaGreatVM33
import Derived.Test.YtjijgoflbjbnfaaGreatVM31
import Derived.Lib.AppendZeros
namespace Go.Proofs.YtjijgoflbjbnfaaGreat.Vt
open Go.RowKit Fr Sr Jo
attribute [local go_sem] Oper.semAt_some

/-- A new store, and a vault of it: nothing in it, the law's list empty. -/
theorem lv_new (w : World) (R : Int) (h0 : 0 ≤ R) (h1 : R ≤ 1048576) : Calls Tryz.prog 8 #[.int .i64 R] w fun e W => e = .returned (.tuple #[.pointer (some ⟨w.heap.size, 0, none⟩), .int .i64 0]) ∧ LS w W w.heap.size (.slice none 0 0) R [] [] ⟨false, 0, false, R, 0⟩ 0 [] := by
  refine (Sr.new_any w R h0 h1).mono ?_
  rintro e W ⟨rfl, hs, hb, hlt⟩
  exact ⟨rfl, _, 0, (true, 0), sf_new hs hlt, Nat.le_refl _, fun k hk => ⟨by rw [hk]; exact Nat.le_refl _, fun e => by cases e⟩, ⟨HV.nil _ _, fun q hq => by cases hq⟩, hb⟩
section
variable {w W : World} {X : List (Nat × Obj)} {p vb g : Nat} {v : Value} {R : Int} {ls hs : List (List Int)} {s : S}
theorem lv_add0 (h : LV w W p vb v R ls hs s true g X) (ha : s.a = false) {A1 : Option Addr} {n1 c1 : Nat} {l : List Int} (hb : BAt w (.slice A1 n1 c1) l) (hsm : Small l) (hx : ls.length < 99) (hR : s.used + (9 + l.length) ≤ R) :
    Calls Tryz.prog 10 #[.pointer (some ⟨vb, 0, none⟩), .slice A1 n1 c1] W fun e W' => e = .returned (.int .i64 0) ∧ ∃ s', LV w W' p vb v R (ls ++ [l]) hs s' true (g + (9 + l.length)) X ∧ s'.a = false ∧ s'.used ≤ s.used + (9 + l.length) := by
  refine (lv_add h hb hsm hx).mono ?_
  rintro e W' ⟨E, s', rfl, hu, ⟨rfl, hv, ha'⟩ | ⟨_, h14, _⟩ | ⟨_, h7, _⟩⟩
  · exact ⟨rfl, s', hv, by rw [ha', ha], hu⟩
  · rw [ha] at h14; cases h14
  · omega
theorem lv_pack0 (h : LV w W p vb v R ls hs s true g X) (ha : s.a = false) (hR : s.used + (18 + 70 * ls.length) ≤ R) :
    Calls Tryz.prog 12 #[.pointer (some ⟨vb, 0, none⟩)] W fun e W' => e = .returned (.int .i64 0) ∧ ∃ s', LV w W' p vb v R ls hs s' true g X ∧ s'.a = false ∧ s'.used ≤ s.used + (18 + 70 * ls.length) := by
  refine (lv_pack h).mono ?_
  rintro e W' ⟨E, s', rfl, hu, ⟨rfl, hv, ha'⟩ | ⟨_, h14, _⟩ | ⟨_, h7, _⟩⟩
  · exact ⟨rfl, s', hv, by rw [ha', ha], hu⟩
  · rw [ha] at h14; cases h14
  · omega
end
def lastL : List Int := [108, 97, 115, 116]
theorem lastS : Small lastL := ⟨fun x hx => by simp [lastL] at hx; omega, by decide⟩
abbrev lastO : Obj := .cells #[.int .u8 108, .int .u8 97, .int .u8 115, .int .u8 116] 5 (4, 5)
theorem last_at {W : World} {b : Nat} (h : W.heap[b]? = some lastO) : BAt W (.slice (some ⟨b, 0, none⟩) 4 4) lastL := by
  refine ⟨_, 4, rfl, by decide, fun _ => ⟨b, 0, rfl, (Array.getElem?_eq_some_iff.1 h).1, fun i hi => ?_⟩⟩
  have hi : i < 4 := hi
  simp only [World.cell?, h]
  match i, hi with
  | 0, _ => rfl
  | 1, _ => rfl
  | 2, _ => rfl
  | 3, _ => rfl
theorem ne_snoc (hs : List (List Int)) (l : List Int) : hs ≠ hs ++ [l] := fun e => by
  have := congrArg List.length e
  simp at this
section
variable {w W : World} {X : List (Nat × Obj)} {p vb g b : Nat} {v : Value} {ls hs : List (List Int)} {s : S}
theorem lv_pack2 (h : LV w W p vb v 100000 hs hs s true g X) (hu : s.used ≤ 9000) (hl : hs.length ≤ 10) :
    Calls Tryz.prog 12 #[.pointer (some ⟨vb, 0, none⟩)] W fun e W' => ∃ E s' sd', e = .returned (.int .i64 E) ∧ (E = 0 ∨ E = 14) ∧ LV w W' p vb v 100000 hs hs s' sd' g X ∧ s'.used ≤ 10000 := by
  refine (lv_pack h).mono ?_
  rintro e W' ⟨E, s', rfl, hu, ⟨rfl, hv, ha'⟩ | ⟨rfl, h14, hv⟩ | ⟨_, h7, _⟩⟩
  · exact ⟨0, s', _, rfl, .inl rfl, hv, by omega⟩
  · exact ⟨14, s', _, rfl, .inr rfl, hv, by omega⟩
  · omega
theorem lv_last (h : LV w W p vb v 100000 hs hs s true g [(b, lastO)]) (hu : s.used ≤ 9000) (hl : hs.length ≤ 10) :
    Calls Tryz.prog 10 #[.pointer (some ⟨vb, 0, none⟩), .slice (some ⟨b, 0, none⟩) 4 4] W fun e W' => ∃ E s' sd' L', e = .returned (.int .i64 E) ∧ ((E = 0 ∧ L' = hs ++ [lastL]) ∨ (E = 14 ∧ L' = hs)) ∧ LV w W' p vb v 100000 L' hs s' sd' (g + 13) [(b, lastO)] ∧ s'.used ≤ 10000 := by
  have hb : BAt W (.slice (some ⟨b, 0, none⟩) 4 4) lastL := by
    obtain ⟨Z, lg, im, h1, h2, h3, h4, h5⟩ := h
    exact last_at (h4.2 _ List.mem_cons_self).2.2
  have e4 : lastL.length = 4 := rfl
  refine (lv_addX h List.mem_cons_self hb (fun hp a n c ha => by cases ha; rfl) lastS (by omega)).mono ?_
  rintro e W' ⟨E, s', rfl, hu, ⟨rfl, hv, ha'⟩ | ⟨rfl, h14, hv⟩ | ⟨_, h7, _⟩⟩
  · exact ⟨0, s', _, _, rfl, .inl ⟨rfl, rfl⟩, hv, by omega⟩
  · exact ⟨14, s', _, _, rfl, .inr ⟨rfl, rfl⟩, hv, by omega⟩
  · omega
theorem lv_last0 (h : LV w W p vb v 100000 ls hs s true g [(b, lastO)]) (ha : s.a = false) (hu : s.used ≤ 90000) (hl : ls.length ≤ 20) :
    Calls Tryz.prog 10 #[.pointer (some ⟨vb, 0, none⟩), .slice (some ⟨b, 0, none⟩) 4 4] W fun e W' => e = .returned (.int .i64 0) ∧ Below w.heap.size w W' := by
  have hb : BAt W (.slice (some ⟨b, 0, none⟩) 4 4) lastL := by
    obtain ⟨Z, lg, im, h1, h2, h3, h4, h5⟩ := h
    exact last_at (h4.2 _ List.mem_cons_self).2.2
  have e4 : lastL.length = 4 := rfl
  refine (lv_addX h List.mem_cons_self hb (fun hp a n c ha => by cases ha; rfl) lastS (by omega)).mono ?_
  rintro e W' ⟨E, s', rfl, hu, ⟨rfl, hv, ha'⟩ | ⟨rfl, h14, hv⟩ | ⟨_, h7, _⟩⟩
  · exact ⟨rfl, hv.bel⟩
  · rw [ha] at h14; cases h14
  · omega
/-- With the last one, or without it. -/
def HL2 (hs L : List (List Int)) : Prop := L = hs ∨ L = hs ++ [lastL]
theorem lv_last1 {W0 : World} {L : List (List Int)} (hl : hs.length ≤ 10) (hL : HL2 hs L) (_ : LV w W0 p vb v 100000 L hs s true g [(b, lastO)]) (ha : s.a = false) (hu : s.used ≤ 90000) : ∀ W, LV w W p vb v 100000 L hs s true g [(b, lastO)] → Calls Tryz.prog 10 #[.pointer (some ⟨vb, 0, none⟩), .slice (some ⟨b, 0, none⟩) 4 4] W fun e W' => e = .returned (.int .i64 0) ∧ Below w.heap.size w W' := fun W h =>
  lv_last0 h ha hu (by
    rcases hL with rfl | rfl
    · omega
    · simp; omega)
/-- All that the law has, and the last one, in a list anew. -/
theorem lv_more (h : LV w W p vb v 100000 ls hs s true g [(b, lastO)]) (hl : hs.length ≤ 1000) :
    ∃ A n c w', (Builtin.append_ #[31, 31] 31 #[.slice (some ⟨W.heap.size, 0, none⟩) 0 0, v]).run Tryz.prog (W.alloc (.cells #[] 32)) = .ok (.slice A n c) w' ∧
      ∃ A2 n2 c2 w2, (Builtin.append_ #[31, 31] 31 #[.slice A n c, .slice (some ⟨w'.heap.size, 0, none⟩) 1 1]).run Tryz.prog (w'.alloc (.cells #[.slice (some ⟨b, 0, none⟩) 4 4] 32)) = .ok (.slice A2 n2 c2) w2 ∧ Below W.heap.size W w2 ∧ Sp.RowsA w2 (.slice A2 n2 c2) (hs ++ [lastL]) := by
  obtain ⟨Z, lg, im, h1, h2, h3, ⟨⟨⟨us, k1, k2⟩, _⟩, hx⟩, h5⟩ := h
  have hb : BAt W (.slice (some ⟨b, 0, none⟩) 4 4) lastL := last_at (hx _ List.mem_cons_self).2.2
  obtain ⟨A, n, c, w', hr, hf⟩ := app_allV k1 k2 h5 hl
  obtain ⟨A2, n2, c2, w2, hr2, hf2⟩ := fi_app hf hb rfl hl
  exact ⟨A, n, c, w', hr, A2, n2, c2, w2, hr2, hf2.2, hf2.toA⟩
end
def tk (n : Nat) (la : List (List Int)) (i : Nat) : List (List Int) := (la.take i).map (·.take n)
theorem tk_snoc {n : Nat} {la : List (List Int)} {i : Nat} (h : i < la.length) : tk n la (i + 1) = tk n la i ++ [(la.getD i []).take n] := by
  have e : la.getD i [] = la[i] := by simp [List.getD, List.getElem?_eq_getElem h]
  unfold tk
  rw [List.take_succ_eq_append_getElem h, List.map_append, e]
  rfl
theorem tk_len {n : Nat} {la : List (List Int)} {i : Nat} (h : i ≤ la.length) : (tk n la i).length = i := by unfold tk; rw [List.length_map, List.length_take]; omega
/-- While the law adds. -/
def EA (w : World) (p vb : Nat) (la : List (List Int)) (i : Nat) (v : Value) (W : World) : Prop := ∃ s, LV w W p vb v 100000 (tk 40 la i) (tk 40 la i) s true (58 * i) [] ∧ s.a = false ∧ s.used ≤ 800 * (i : Int)
theorem ea_add {w W : World} {p vb i : Nat} {la : List (List Int)} {v : Value} (h : EA w p vb la i v W) (hi : i < la.length) (hi2 : i < 10) {A1 : Option Addr} {n1 c1 : Nat} (hb : BAt w (.slice A1 n1 c1) ((la.getD i []).take 40)) (hbk : bok ((la.getD i []).take 40)) :
    Calls Tryz.prog 10 #[.pointer (some ⟨vb, 0, none⟩), .slice A1 n1 c1] W fun e W' => e = .returned (.int .i64 0) ∧ ∃ s', LV w W' p vb v 100000 (tk 40 la (i + 1)) (tk 40 la i) s' true (58 * (i + 1)) [] ∧ s'.a = false ∧ s'.used ≤ 800 * (i : Int) + 60 := by
  obtain ⟨s, hv, ha, hu⟩ := h
  have hl : ((la.getD i []).take 40).length ≤ 40 := by rw [List.length_take]; omega
  have ht := tk_len (n := 40) (Nat.le_of_lt hi)
  refine (lv_add0 hv ha hb ⟨hbk, by omega⟩ (by omega) (by omega)).mono ?_
  rintro e W' ⟨rfl, s', hv', ha', hu'⟩
  rw [← tk_snoc hi] at hv'
  exact ⟨rfl, s', hv'.le (by omega), ha', by omega⟩
theorem ea_pack {w W : World} {p vb i : Nat} {la : List (List Int)} {v : Value} {s : S} (h : LV w W p vb v 100000 (tk 40 la (i + 1)) (tk 40 la i) s true (58 * (i + 1)) []) (ha : s.a = false) (hu : s.used ≤ 800 * (i : Int) + 60) (hi : i < la.length) (hi2 : i < 10) : Calls Tryz.prog 12 #[.pointer (some ⟨vb, 0, none⟩)] W fun e W' => e = .returned (.int .i64 0) ∧ ∃ s', LV w W' p vb v 100000 (tk 40 la (i + 1)) (tk 40 la i) s' true (58 * (i + 1)) [] ∧ s'.a = false ∧ s'.used ≤ 800 * ((i : Int) + 1) := by
  have ht := tk_len (n := 40) (la := la) (i := i + 1) (by omega)
  refine (lv_pack0 h ha (by rw [ht]; omega)).mono ?_
  rintro e W' ⟨rfl, s', hv', ha', hu'⟩
  rw [ht] at hu'
  exact ⟨rfl, s', hv', ha', by omega⟩
theorem ea_app {w W : World} {p vb i : Nat} {la : List (List Int)} {v : Value} {s : S} (h : LV w W p vb v 100000 (tk 40 la (i + 1)) (tk 40 la i) s true (58 * (i + 1)) []) (ha : s.a = false) (hu : s.used ≤ 800 * ((i : Int) + 1)) (hi : i < la.length) (hi2 : i < 10) {A1 : Option Addr} {n1 c1 : Nat} (hb : BAt w (.slice A1 n1 c1) ((la.getD i []).take 40)) :
    ∃ A n c W5, (Builtin.append_ #[31, 31] 31 #[v, .slice (some ⟨W.heap.size, 0, none⟩) 1 1]).run Tryz.prog (W.alloc (.cells #[.slice A1 n1 c1] 32)) = .ok (.slice A n c) W5 ∧ EA w p vb la (i + 1) (.slice A n c) W5 := by
  obtain ⟨A, n, c, W5, hr, hv⟩ := lv_app h hb ⟨_, _, _, rfl⟩ (by rw [tk_len (by omega)]; omega)
  rw [← tk_snoc hi] at hv
  exact ⟨A, n, c, W5, hr, s, hv, ha, by push_cast; omega⟩
set_option maxRecDepth 100000 in
set_option maxHeartbeats 8000000 in
theorem law_ends (w : World) (A0 : Option Addr) (n0 c0 : Nat) (h0 : RIn w A0 n0 c0) (x y : Int) (pq : Bool) :
    Calls Tryz.prog 5 #[.slice A0 n0 c0, .int .i64 x, .int .i64 y, .bool pq] w fun e w' => e = .returned (.bool true) ∧ Below w.heap.size w w' := by
  obtain ⟨la, hpa, hba⟩ := h0
  obtain ⟨A', cap', he, hcp, hcl⟩ := hpa
  cases he
  obtain ⟨n0, hn0⟩ : ∃ n0, n0 = la.length := ⟨_, rfl⟩
  rw [← hn0] at hcl hcp ⊢
  have HCL := Lib.hid hcl
  have HN0 := Lib.hid (And.intro hn0 hba)
  have HNW := Lib.hid (lv_new w 100000 (by decide) (by decide))
  obtain ⟨p, hp⟩ : ∃ p, p = w.heap.size := ⟨_, rfl⟩
  rw [← hp] at HNW
  have HP := Lib.hid hp
  have hxq : 0 ≤ (IntKind.u64.wrap x).tmod 10 ∧ (IntKind.u64.wrap x).tmod 10 ≤ 9 := by
    have h1 : 0 ≤ IntKind.u64.wrap x := by rw [IntKind.wrap_u64]; omega
    rw [Int.tmod_eq_emod_of_nonneg h1]; omega
  obtain ⟨xq, hxq2⟩ : ∃ xq : Nat, (IntKind.u64.wrap x).tmod 10 = (xq : Int) := ⟨((IntKind.u64.wrap x).tmod 10).toNat, by omega⟩
  have hyq : 0 ≤ (IntKind.u64.wrap y).tmod 600 ∧ (IntKind.u64.wrap y).tmod 600 ≤ 599 := by
    have h1 : 0 ≤ IntKind.u64.wrap y := by rw [IntKind.wrap_u64]; omega
    rw [Int.tmod_eq_emod_of_nonneg h1]; omega
  obtain ⟨u, hu2⟩ : ∃ u : Nat, (IntKind.u64.wrap y).tmod 600 = (u : Int) := ⟨((IntKind.u64.wrap y).tmod 600).toNat, by omega⟩
  rw [hxq2] at hxq
  rw [hu2] at hyq
  have HYQ := Lib.hid hyq
  clear hcl hn0 hba hp hcp hyq
  go_enter Tryz.func5, Tryz.ntmps5
  go_wp2_with (first
    | (go_at_call 9; (with_reducible refine (lv_open HS1.out rfl rfl (.inr (by decide))).mono ?_); rintro e w2 ⟨vb, s2, rfl, hv2, ha2, hu2'⟩; have HV2 := Lib.hid hv2; have HA2 := Lib.hid (And.intro ha2 hu2'); clear hv2 ha2 hu2')
    | (go_at_call 8; (with_reducible refine HNW.out.mono ?_); rintro e w1 ⟨rfl, hs1⟩; have HS1 := Lib.hid hs1; clear hs1))
  have HE0 : Hid (EA w p vb la 0 (.slice none 0 0) w2) := ⟨s2, HV2.out, HA2.out.1, by have := HA2.out.2; simpa using this⟩
  clear HNW HS1
  go_loopg [13, 14] 10 (fun (gh : Nat) s13 s14 wx => ∃ (i : Nat) (A : Option Addr) (n c : Nat), gh = 10 - i ∧ i ≤ 10 ∧ i ≤ n0 ∧ s13 = .slice A n c ∧ s14 = .int .i64 (i : Int) ∧ Hid (EA w p vb la i (.slice A n c) wx))
  case atStart => exact ⟨0, none, 0, 0, rfl, Nat.zero_le _, Nat.zero_le _, rfl, rfl, HE0.out⟩
  case round =>
    obtain ⟨i, A, n, c, rfl, hi, hin, rfl, rfl, hI⟩ := hrel
    by_cases hlt : i < n0 ∧ i < 10
    · obtain ⟨hl1, hl2⟩ := hlt
      have t1 : (i : Int) < (n0 : Int) := by omega
      have t2 : (i : Int) < 10 := by omega
      have t3 : (0 : Int) ≤ (i : Int) := by omega
      obtain ⟨g, o, rfl, lg, hcell⟩ := HCL.out (by omega)
      obtain ⟨u1, hu, hub⟩ := hcell i (by omega)
      obtain ⟨A2, c2, rfl, hc2, hcc⟩ := hub
      obtain ⟨n2, hn2⟩ : ∃ n2, n2 = (la.getD i []).length := ⟨_, rfl⟩
      obtain ⟨q2, hq2⟩ : ∃ q2, q2 = min n2 40 := ⟨_, rfl⟩
      have hub : BAt w (.slice A2 (la.getD i []).length c2) (la.getD i []) := ⟨A2, c2, rfl, hc2, hcc⟩
      rw [← hn2] at hu hc2 hub
      have hmin2 : (if (40 : Int) < (n2 : Int) then 40 else (n2 : Int)) = (q2 : Int) := by split <;> omega
      have hmin3 : min (n2 : Int) 40 = (q2 : Int) := by omega
      have hs2 := slice_to A2 n2 c2 q2 (by omega)
      have hq : BAt w (.slice A2 q2 c2) ((la.getD i []).take 40) := by
        rw [← Sp.take_min (q := q2) (by rw [← hn2]; exact hq2)]
        exact (hub.take q2 (by omega)).1
      have hil : i < la.length := by rw [← HN0.out.1]; exact hl1
      have hbk : bok ((la.getD i []).take 40) := fun z hz => by
        have h9 : la.getD i [] ∈ la := by
          rw [List.getD_eq_getElem?_getD, List.getElem?_eq_getElem hil]; exact List.getElem_mem hil
        exact HN0.out.2 _ h9 z (List.mem_of_mem_take hz)
      have hbel : Below w.heap.size w wr := by obtain ⟨s9, h9, _⟩ := hI.out; exact h9.bel
      have D0 : wr.cell? ⟨g, o + i, none⟩ = some (.slice A2 n2 c2) := (hbel.cell (p := ⟨g, o + i, none⟩) lg).trans hu
      have HQ := Lib.hid (And.intro hq hbk)
      have HI2 := Lib.hid (And.intro hil hl2)
      have HL := Lib.hid (And.intro hl1 hl2)
      clear hcell hu hcc hub hn2 hq2 hq hbk hbel hil hin
      have HID : Hid (EA w p vb la i (.slice A n c) wr.drew) := by obtain ⟨s9, h9, h10⟩ := hI.out; exact ⟨s9, h9.below ((Below.refl _ _).drew), h10⟩
      go_upto_region 10 with fail
      go_region_held3 (fun w' => w'.cell? ⟨g, o + i, none⟩ = some (.slice A2 n2 c2))
        (first | (exact D0) | go_keep)
        ((refine Sp.step_min _ (by rfl) (.tmp 63) _ _ (n2 : Int) 40 (q2 : Int) (by rfl) (by rfl) hmin2 ?_))
      by_cases hix : i = xq
      · have hxe : ((i : Int) == (xq : Int)) = true := by simp [hix]
        have hxn : (i : Int) = (xq : Int) := by rw [hix]
        clear hix hxn
        go_wp2_with (first
          | (have hq7 := hr7; refine Lib.wpList_append_run _ rfl _ _ 31 31 rfl (.slice A n c) (.slice (some ⟨w6.heap.size, 0, none⟩) 1 1) rfl rfl (.slice A7 n7 c7) w7 hq7 ?_; clear hr7 hq7)
          | (go_at_call 12; (with_reducible refine (ea_pack HV5.out HA5.out.1 HA5.out.2 HI2.out.1 HI2.out.2).mono ?_); rintro e w6 ⟨rfl, s6, hv6, ha6, hu6⟩
             obtain ⟨A7, n7, c7, w7, hr7, hea⟩ := ea_app hv6 ha6 hu6 HI2.out.1 HI2.out.2 HQ.out.1
             have HEA := Lib.hid hea
             clear hv6 ha6 hu6 hea)
          | (go_at_call 10; (with_reducible refine (ea_add HID.out HI2.out.1 HI2.out.2 HQ.out.1 HQ.out.2).mono ?_); rintro e w5 ⟨rfl, s5, hv5, ha5, hu5⟩; have HV5 := Lib.hid hv5; have HA5 := Lib.hid (And.intro ha5 hu5); clear hv5 ha5 hu5))
        go_roundg (10 - (i + 1))
        case measure => have := HL.out; omega
        case rel => exact ⟨i + 1, A7, n7, c7, rfl, HL.out.2, HL.out.1, rfl, by go_num, HEA.out⟩
      · have hxe : ((i : Int) == (xq : Int)) = false := by simpa using (fun e : (i : Int) = (xq : Int) => hix (by omega))
        have hxn : ¬ (i : Int) = (xq : Int) := by omega
        clear hix
        go_wp2_with (first
          | (have hq7 := hr7; refine Lib.wpList_append_run _ rfl _ _ 31 31 rfl (.slice A n c) (.slice (some ⟨w5.heap.size, 0, none⟩) 1 1) rfl rfl (.slice A7 n7 c7) w7 hq7 ?_; clear hr7 hq7)
          | (go_at_call 10; (with_reducible refine (ea_add HID.out HI2.out.1 HI2.out.2 HQ.out.1 HQ.out.2).mono ?_); rintro e w5 ⟨rfl, s5, hv5, ha5, hu5⟩
             obtain ⟨A7, n7, c7, w7, hr7, hea⟩ := ea_app hv5 ha5 (by omega) HI2.out.1 HI2.out.2 HQ.out.1
             have HEA := Lib.hid hea
             clear hv5 ha5 hu5 hea))
        go_roundg (10 - (i + 1))
        case measure => have := HL.out; omega
        case rel => exact ⟨i + 1, A7, n7, c7, rfl, HL.out.2, HL.out.1, rfl, by go_num, HEA.out⟩
    · obtain ⟨s3, hv3, ha3, hu3⟩ := hI.out
      have hil : i ≤ la.length := by rw [← HN0.out.1]; exact hin
      obtain ⟨hs, hhs⟩ : ∃ hs, hs = tk 40 la i := ⟨_, rfl⟩
      have hsl : hs.length ≤ 10 := by rw [hhs, tk_len hil]; exact hi
      have hss : ∀ l ∈ hs, Small l := hv3.bl.1 |> fun h => by rw [hhs]; exact h
      rw [← hhs] at hv3
      have HV3 := Lib.hid (hv3.le (g' := 580) (by omega))
      have HS3 := Lib.hid (And.intro hsl hss)
      have HU3 : Hid (s3.used ≤ 8000) := Lib.hid (by omega)
      have hcases : (¬ (i : Int) < (n0 : Int)) ∨ ((i : Int) < (n0 : Int) ∧ ¬ (i : Int) < 10) := by omega
      obtain ⟨iz, hiz⟩ : ∃ iz : Int, iz = (i : Int) := ⟨_, rfl⟩
      rw [← hiz] at hcases ⊢
      clear hI hv3 ha3 hu3 hil hhs hsl hss hlt hi hin hiz HE0 HV2 HA2 HCL
      -- EXITS
      have HLS : Hid (∀ L : List (List Int), (L = hs ∨ L = hs ++ [lastL]) → (∀ l ∈ L, Small l) ∧ L.length ≤ 1000) := fun L hL => by
        have h1 := HS3.out.1
        rcases hL with rfl | rfl
        · exact ⟨HS3.out.2, by omega⟩
        · refine ⟨fun l hl => ?_, by simp; omega⟩
          rcases List.mem_append.1 hl with h2 | h2
          · exact HS3.out.2 l h2
          · simp at h2; rw [h2]; exact lastS
      have HSHH : Hid (∀ W u v, Sp.RowsA W u hs → Sp.RowsA W v hs → Calls Tryz.prog 15 #[u, v] W fun e W' => e = .returned (.bool true) ∧ Below W.heap.size W W') := fun W u v h1 h2 => lv_same h1 h2 (HLS.out _ (.inl rfl)) (HLS.out _ (.inl rfl)) (decide_eq_true rfl)
      have HSHM : Hid (∀ W u v, Sp.RowsA W u hs → Sp.RowsA W v (hs ++ [lastL]) → Calls Tryz.prog 15 #[u, v] W fun e W' => e = .returned (.bool false) ∧ Below W.heap.size W W') := fun W u v h1 h2 => lv_same h1 h2 (HLS.out _ (.inl rfl)) (HLS.out _ (.inr rfl)) (decide_eq_false (ne_snoc _ _))
      have HSMM : Hid (∀ W u v, Sp.RowsA W u (hs ++ [lastL]) → Sp.RowsA W v (hs ++ [lastL]) → Calls Tryz.prog 15 #[u, v] W fun e W' => e = .returned (.bool true) ∧ Below W.heap.size W W') := fun W u v h1 h2 => lv_same h1 h2 (HLS.out _ (.inr rfl)) (HLS.out _ (.inr rfl)) (decide_eq_true rfl)
      have kc := fun (w : World) (C : Array Value) (n c : Nat) => Lib.run_convert_bytes_const (P := Tryz.prog) w 32 5 C n c Tryz.underlying32 Tryz.underlying5
      have hw64 : wrap64 (u : Int) = (u : Int) := by have := HYQ.out; unfold wrap64; omega
      cases pq
      · -- Add
        rcases hcases with t1 | ⟨t1, t2⟩
        all_goals
          go_upto_region 20 with (first
            | (go_at_call 10; (with_reducible refine (lv_last HV5.out (by have := HU3.out; simp only [armS]; omega) HS3.out.1).mono ?_); rintro e w5 ⟨E, s5, sd5, L5, rfl, hE, hv5, hu5⟩; have HE := Lib.hid hE; have HV6 := Lib.hid hv5; have HU6 := Lib.hid hu5; clear hE hv5 hu5)
            | (go_at_call 13; (with_reducible refine (lv_arm HV3.out (n := (u : Int)) (by have := HYQ.out; omega)).mono ?_); rintro e w4 ⟨rfl, hv4⟩; have HV5 := Lib.hid (lv_lit hv4 lastO); clear hv4))
          rcases HE.out with ⟨hE, hL⟩ | ⟨hE, hL⟩
          all_goals
            have HLL : Hid (HL2 hs L5) := by first | exact .inl hL | exact .inr hL
            rw [hL] at HV6 HLL
            subst hE
            clear hL HE HV5 HV3
        · go_wp2_with (first
          | (go_at_call 10; (with_reducible refine (HLA.out _ HV12.out).mono ?_); rintro e w15 ⟨rfl, hb15⟩; have HB15 := Lib.hid hb15; clear hb15)
          | (go_at_call 15; (with_reducible refine (HSMM.out _ _ _ HX11.out HM11.out).mono ?_); rintro e w12 ⟨rfl, hb12⟩; have HX12 := Lib.hid (HX11.out.below hb12); have HM12 := Lib.hid (HM11.out.below hb12); have HV12 := Lib.hid (HV11.out.below hb12); clear hb12)
          | (go_at_call 22; (with_reducible refine (known_any w10).mono ?_); rintro e w11 ⟨rfl, hb11⟩; have HX11 := Lib.hid (HX.out.below hb11); have HM11 := Lib.hid (HM.out.below hb11); have HV11 := Lib.hid (HV10.out.below hb11); clear hb11)
          | (have hq10 := hr10; refine Lib.wpList_append_run _ rfl _ _ 31 31 rfl (.slice A9 n9 c9) (.slice (some ⟨w9.heap.size, 0, none⟩) 1 1) rfl rfl (.slice A10 n10 c10) w10 hq10 ?_; clear hr10 hq10)
          | (have hq9 := hr9; refine Lib.wpList_append_run _ rfl _ _ 31 31 rfl (.slice (some ⟨w8.heap.size, 0, none⟩) 0 0) (.slice A n c) rfl rfl (.slice A9 n9 c9) w9 hq9 ?_; clear hr9 hq9)
          | (go_at_call 16; (with_reducible refine (lv_all HV8.out).mono ?_); rintro e w8 ⟨A8, n8, c8, rfl, hr8, hb8⟩
             have hr8' := (rowsO_toT (T' := fun _ => False) hr8 (fun _ h => h.elim)).toA
             have hv8 := HV8.out.below hb8
             obtain ⟨A9, n9, c9, w9, hr9, A10, n10, c10, w10, hr10, hb10, hm10⟩ := lv_more hv8 (by have := HS3.out.1; omega)
             have HX := Lib.hid (hr8'.below hb10)
             have HM := Lib.hid hm10
             have HV10 := Lib.hid (hv8.below hb10)
             clear hr8 hr8' hb8 hv8 hb10 hm10)
          | (go_at_call 9; (with_reducible refine (lv_open HS7.out rfl rfl (.inr (by decide))).mono ?_); rintro e w7 ⟨vc, s8, rfl, hv8, ha8, hu8⟩; have HV8 := Lib.hid hv8; have hu9 : s8.used ≤ 90000 := Int.le_trans hu8 (Int.le_trans HU6.out (by decide)); have HLA := Lib.hid (lv_last1 HS3.out.1 HLL.out hv8 ha8 hu9); clear hv8 ha8 hu8 hu9)
          | (go_at_call 14; (with_reducible refine (lv_rev HV6.out).mono ?_); rintro e w6 ⟨rfl, hs7⟩; have HS7 := Lib.hid hs7; clear hs7))
          go_ret
          exact ⟨rfl, HB15.out⟩
        · go_wp2_with (first
          | (go_at_call 10; (with_reducible refine (HLA.out _ HV13.out).mono ?_); rintro e w15 ⟨rfl, hb15⟩; have HB15 := Lib.hid hb15; clear hb15)
          | (go_at_call 15; (with_reducible refine (HSHH.out _ _ _ HX12.out HV12.out.hsA).mono ?_); rintro e w13 ⟨rfl, hb13⟩; have HX13 := Lib.hid (HX12.out.below hb13); have HM13 := Lib.hid (HM12.out.below hb13); have HV13 := Lib.hid (HV12.out.below hb13); clear hb13)
          | (go_at_call 15; (with_reducible refine (HSHM.out _ _ _ HX11.out HM11.out).mono ?_); rintro e w12 ⟨rfl, hb12⟩; have HX12 := Lib.hid (HX11.out.below hb12); have HM12 := Lib.hid (HM11.out.below hb12); have HV12 := Lib.hid (HV11.out.below hb12); clear hb12)
          | (go_at_call 22; (with_reducible refine (known_any w10).mono ?_); rintro e w11 ⟨rfl, hb11⟩; have HX11 := Lib.hid (HX.out.below hb11); have HM11 := Lib.hid (HM.out.below hb11); have HV11 := Lib.hid (HV10.out.below hb11); clear hb11)
          | (have hq10 := hr10; refine Lib.wpList_append_run _ rfl _ _ 31 31 rfl (.slice A9 n9 c9) (.slice (some ⟨w9.heap.size, 0, none⟩) 1 1) rfl rfl (.slice A10 n10 c10) w10 hq10 ?_; clear hr10 hq10)
          | (have hq9 := hr9; refine Lib.wpList_append_run _ rfl _ _ 31 31 rfl (.slice (some ⟨w8.heap.size, 0, none⟩) 0 0) (.slice A n c) rfl rfl (.slice A9 n9 c9) w9 hq9 ?_; clear hr9 hq9)
          | (go_at_call 16; (with_reducible refine (lv_all HV8.out).mono ?_); rintro e w8 ⟨A8, n8, c8, rfl, hr8, hb8⟩
             have hr8' := (rowsO_toT (T' := fun _ => False) hr8 (fun _ h => h.elim)).toA
             have hv8 := HV8.out.below hb8
             obtain ⟨A9, n9, c9, w9, hr9, A10, n10, c10, w10, hr10, hb10, hm10⟩ := lv_more hv8 (by have := HS3.out.1; omega)
             have HX := Lib.hid (hr8'.below hb10)
             have HM := Lib.hid hm10
             have HV10 := Lib.hid (hv8.below hb10)
             clear hr8 hr8' hb8 hv8 hb10 hm10)
          | (go_at_call 9; (with_reducible refine (lv_open HS7.out rfl rfl (.inr (by decide))).mono ?_); rintro e w7 ⟨vc, s8, rfl, hv8, ha8, hu8⟩; have HV8 := Lib.hid hv8; have hu9 : s8.used ≤ 90000 := Int.le_trans hu8 (Int.le_trans HU6.out (by decide)); have HLA := Lib.hid (lv_last1 HS3.out.1 HLL.out hv8 ha8 hu9); clear hv8 ha8 hu8 hu9)
          | (go_at_call 14; (with_reducible refine (lv_rev HV6.out).mono ?_); rintro e w6 ⟨rfl, hs7⟩; have HS7 := Lib.hid hs7; clear hs7))
          go_ret
          exact ⟨rfl, HB15.out⟩
        · go_wp2_with (first
          | (go_at_call 10; (with_reducible refine (HLA.out _ HV12.out).mono ?_); rintro e w15 ⟨rfl, hb15⟩; have HB15 := Lib.hid hb15; clear hb15)
          | (go_at_call 15; (with_reducible refine (HSMM.out _ _ _ HX11.out HM11.out).mono ?_); rintro e w12 ⟨rfl, hb12⟩; have HX12 := Lib.hid (HX11.out.below hb12); have HM12 := Lib.hid (HM11.out.below hb12); have HV12 := Lib.hid (HV11.out.below hb12); clear hb12)
          | (go_at_call 22; (with_reducible refine (known_any w10).mono ?_); rintro e w11 ⟨rfl, hb11⟩; have HX11 := Lib.hid (HX.out.below hb11); have HM11 := Lib.hid (HM.out.below hb11); have HV11 := Lib.hid (HV10.out.below hb11); clear hb11)
          | (have hq10 := hr10; refine Lib.wpList_append_run _ rfl _ _ 31 31 rfl (.slice A9 n9 c9) (.slice (some ⟨w9.heap.size, 0, none⟩) 1 1) rfl rfl (.slice A10 n10 c10) w10 hq10 ?_; clear hr10 hq10)
          | (have hq9 := hr9; refine Lib.wpList_append_run _ rfl _ _ 31 31 rfl (.slice (some ⟨w8.heap.size, 0, none⟩) 0 0) (.slice A n c) rfl rfl (.slice A9 n9 c9) w9 hq9 ?_; clear hr9 hq9)
          | (go_at_call 16; (with_reducible refine (lv_all HV8.out).mono ?_); rintro e w8 ⟨A8, n8, c8, rfl, hr8, hb8⟩
             have hr8' := (rowsO_toT (T' := fun _ => False) hr8 (fun _ h => h.elim)).toA
             have hv8 := HV8.out.below hb8
             obtain ⟨A9, n9, c9, w9, hr9, A10, n10, c10, w10, hr10, hb10, hm10⟩ := lv_more hv8 (by have := HS3.out.1; omega)
             have HX := Lib.hid (hr8'.below hb10)
             have HM := Lib.hid hm10
             have HV10 := Lib.hid (hv8.below hb10)
             clear hr8 hr8' hb8 hv8 hb10 hm10)
          | (go_at_call 9; (with_reducible refine (lv_open HS7.out rfl rfl (.inr (by decide))).mono ?_); rintro e w7 ⟨vc, s8, rfl, hv8, ha8, hu8⟩; have HV8 := Lib.hid hv8; have hu9 : s8.used ≤ 90000 := Int.le_trans hu8 (Int.le_trans HU6.out (by decide)); have HLA := Lib.hid (lv_last1 HS3.out.1 HLL.out hv8 ha8 hu9); clear hv8 ha8 hu8 hu9)
          | (go_at_call 14; (with_reducible refine (lv_rev HV6.out).mono ?_); rintro e w6 ⟨rfl, hs7⟩; have HS7 := Lib.hid hs7; clear hs7))
          go_ret
          exact ⟨rfl, HB15.out⟩
        · go_wp2_with (first
          | (go_at_call 10; (with_reducible refine (HLA.out _ HV13.out).mono ?_); rintro e w15 ⟨rfl, hb15⟩; have HB15 := Lib.hid hb15; clear hb15)
          | (go_at_call 15; (with_reducible refine (HSHH.out _ _ _ HX12.out HV12.out.hsA).mono ?_); rintro e w13 ⟨rfl, hb13⟩; have HX13 := Lib.hid (HX12.out.below hb13); have HM13 := Lib.hid (HM12.out.below hb13); have HV13 := Lib.hid (HV12.out.below hb13); clear hb13)
          | (go_at_call 15; (with_reducible refine (HSHM.out _ _ _ HX11.out HM11.out).mono ?_); rintro e w12 ⟨rfl, hb12⟩; have HX12 := Lib.hid (HX11.out.below hb12); have HM12 := Lib.hid (HM11.out.below hb12); have HV12 := Lib.hid (HV11.out.below hb12); clear hb12)
          | (go_at_call 22; (with_reducible refine (known_any w10).mono ?_); rintro e w11 ⟨rfl, hb11⟩; have HX11 := Lib.hid (HX.out.below hb11); have HM11 := Lib.hid (HM.out.below hb11); have HV11 := Lib.hid (HV10.out.below hb11); clear hb11)
          | (have hq10 := hr10; refine Lib.wpList_append_run _ rfl _ _ 31 31 rfl (.slice A9 n9 c9) (.slice (some ⟨w9.heap.size, 0, none⟩) 1 1) rfl rfl (.slice A10 n10 c10) w10 hq10 ?_; clear hr10 hq10)
          | (have hq9 := hr9; refine Lib.wpList_append_run _ rfl _ _ 31 31 rfl (.slice (some ⟨w8.heap.size, 0, none⟩) 0 0) (.slice A n c) rfl rfl (.slice A9 n9 c9) w9 hq9 ?_; clear hr9 hq9)
          | (go_at_call 16; (with_reducible refine (lv_all HV8.out).mono ?_); rintro e w8 ⟨A8, n8, c8, rfl, hr8, hb8⟩
             have hr8' := (rowsO_toT (T' := fun _ => False) hr8 (fun _ h => h.elim)).toA
             have hv8 := HV8.out.below hb8
             obtain ⟨A9, n9, c9, w9, hr9, A10, n10, c10, w10, hr10, hb10, hm10⟩ := lv_more hv8 (by have := HS3.out.1; omega)
             have HX := Lib.hid (hr8'.below hb10)
             have HM := Lib.hid hm10
             have HV10 := Lib.hid (hv8.below hb10)
             clear hr8 hr8' hb8 hv8 hb10 hm10)
          | (go_at_call 9; (with_reducible refine (lv_open HS7.out rfl rfl (.inr (by decide))).mono ?_); rintro e w7 ⟨vc, s8, rfl, hv8, ha8, hu8⟩; have HV8 := Lib.hid hv8; have hu9 : s8.used ≤ 90000 := Int.le_trans hu8 (Int.le_trans HU6.out (by decide)); have HLA := Lib.hid (lv_last1 HS3.out.1 HLL.out hv8 ha8 hu9); clear hv8 ha8 hu8 hu9)
          | (go_at_call 14; (with_reducible refine (lv_rev HV6.out).mono ?_); rintro e w6 ⟨rfl, hs7⟩; have HS7 := Lib.hid hs7; clear hs7))
          go_ret
          exact ⟨rfl, HB15.out⟩
      · -- Pack
        rcases hcases with t1 | ⟨t1, t2⟩
        all_goals
          go_upto_region 20 with (first
            | (go_at_call 12; (with_reducible refine (lv_pack2 HV5.out (by have := HU3.out; simp only [armS]; omega) HS3.out.1).mono ?_); rintro e w5 ⟨E, s5, sd5, rfl, hE, hv5, hu5⟩; have HE := Lib.hid hE; have HV6 := Lib.hid hv5; have HU6 := Lib.hid hu5; clear hE hv5 hu5)
            | (go_at_call 13; (with_reducible refine (lv_arm HV3.out (n := (u : Int)) (by have := HYQ.out; omega)).mono ?_); rintro e w4 ⟨rfl, hv4⟩; have HV5 := Lib.hid (lv_lit hv4 lastO); clear hv4))
          rcases HE.out with hE | hE
          all_goals
            have HLL : Hid (HL2 hs hs) := .inl rfl
            subst hE
            clear HE HV5 HV3
        all_goals
          go_wp2_with (first
            | (go_at_call 15; (with_reducible refine (HSHH.out _ _ _ HX11.out HV11.out.hsA).mono ?_); rintro e w12 ⟨rfl, hb12⟩; have HX12 := Lib.hid (HX11.out.below hb12); have HM12 := Lib.hid (HM11.out.below hb12); have HV12 := Lib.hid (HV11.out.below hb12); clear hb12)
            | (go_at_call 22; (with_reducible refine (known_any w10).mono ?_); rintro e w11 ⟨rfl, hb11⟩; have HX11 := Lib.hid (HX.out.below hb11); have HM11 := Lib.hid (HM.out.below hb11); have HV11 := Lib.hid (HV10.out.below hb11); clear hb11)
            | (have hq10 := hr10; refine Lib.wpList_append_run _ rfl _ _ 31 31 rfl (.slice A9 n9 c9) (.slice (some ⟨w9.heap.size, 0, none⟩) 1 1) rfl rfl (.slice A10 n10 c10) w10 hq10 ?_; clear hr10 hq10)
            | (have hq9 := hr9; refine Lib.wpList_append_run _ rfl _ _ 31 31 rfl (.slice (some ⟨w8.heap.size, 0, none⟩) 0 0) (.slice A n c) rfl rfl (.slice A9 n9 c9) w9 hq9 ?_; clear hr9 hq9)
            | (go_at_call 16; (with_reducible refine (lv_all HV8.out).mono ?_); rintro e w8 ⟨A8, n8, c8, rfl, hr8, hb8⟩
               have hr8' := (rowsO_toT (T' := fun _ => False) hr8 (fun _ h => h.elim)).toA
               have hv8 := HV8.out.below hb8
               obtain ⟨A9, n9, c9, w9, hr9, A10, n10, c10, w10, hr10, hb10, hm10⟩ := lv_more hv8 (by have := HS3.out.1; omega)
               have HX := Lib.hid (hr8'.below hb10)
               have HM := Lib.hid hm10
               have HV10 := Lib.hid (hv8.below hb10)
               clear hr8 hr8' hb8 hv8 hb10 hm10)
            | (go_at_call 9; (with_reducible refine (lv_open HS7.out rfl rfl (.inr (by decide))).mono ?_); rintro e w7 ⟨vc, s8, rfl, hv8, ha8, hu8⟩; have HV8 := Lib.hid hv8; have hu9 : s8.used ≤ 90000 := Int.le_trans hu8 (Int.le_trans HU6.out (by decide)); have HLA := Lib.hid (lv_last1 HS3.out.1 HLL.out hv8 ha8 hu9); clear hv8 ha8 hu8 hu9)
            | (go_at_call 14; (with_reducible refine (lv_rev HV6.out).mono ?_); rintro e w6 ⟨rfl, hs7⟩; have HS7 := Lib.hid hs7; clear hs7))
          go_ret
          exact ⟨rfl, HV12.out.bel⟩
end Go.Proofs.YtjijgoflbjbnfaaGreat.Vt
