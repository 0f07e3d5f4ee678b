/-
  The law RosterNil answers true: its walk. Conditions: none.
-/
import Derived.Test.YtkoihpfgleboiaaRKno
import Derived.Test.YtkoihpfgleboiaaYRChk
import Derived.Test.YtkoihpfgleboiaaYTo
namespace Go.Proofs.Ytkoihpfgleboiaa.Ro
open Go.RowKit Tb Td

theorem nil_r (W : World) : RosR W none 0 [] [] := .inl ⟨rfl, rfl, rfl, rfl⟩
theorem nil_home (W : World) (s : ByteArray) : Calls Try.prog 12 #[.pointer none, .string s] W fun e w' => e = .returned (.tuple #[.int .i64 0, .int .i64 5]) ∧ Below W.heap.size W w' :=
  home_any W none 0 [] [] s (nil_r W) List.Pairwise.nil (by decide)
theorem nil_has (W : World) (s : ByteArray) : Calls Try.prog 19 #[.pointer none, .string s] W fun e w' => e = .returned (.bool false) ∧ Below W.heap.size W w' :=
  has_any W none 0 [] [] s (nil_r W) List.Pairwise.nil (by decide)
theorem nil_nodes (W : World) : Calls Try.prog 11 #[.pointer none] W fun e w' => e = .returned (.int .i64 0) ∧ Below W.heap.size W w' := nodes_any W none 0 [] [] (nil_r W)
theorem nil_members (W : World) (k : Int) : Calls Try.prog 14 #[.pointer none, .int .i64 k] W fun e w' => ∃ A c, e = .returned (.slice A 0 c) ∧ Below W.heap.size W w' := by
  refine (members_any W none 0 [] [] k (nil_r W) (by decide)).mono ?_
  rintro e w' ⟨v, rfl, ho, hb⟩
  obtain ⟨A, c, rfl, _⟩ := own_strs ho
  exact ⟨A, c, rfl, hb⟩
theorem nil_isins (W : World) : Calls Try.prog 15 #[.pointer none] W fun e w' => ∃ A c, e = .returned (.slice A 0 c) ∧ Below W.heap.size W w' := by
  refine (isins_any W none 0 [] [] (nil_r W) (by decide)).mono ?_
  rintro e w' ⟨v, rfl, ho, hb⟩
  obtain ⟨A, c, rfl, _⟩ := own_strs ho
  exact ⟨A, c, rfl, hb⟩
theorem nil_peers (W : World) (k : Int) : Calls Try.prog 22 #[.pointer none, .int .i64 k] W fun e w' => ∃ A c, e = .returned (.slice A 0 c) ∧ Below W.heap.size W w' := by
  refine (peers_any W none 0 k [] [] (nil_r W) (by decide)).mono ?_
  have hz : peersL 0 k = [] := by
    unfold peersL
    rw [if_neg]
    unfold nodeB
    simp
  rw [hz]
  rintro e w' ⟨v, rfl, ho, hb⟩
  obtain ⟨A, c, rfl, _⟩ := own_nums ho
  exact ⟨A, c, rfl, hb⟩
theorem nil_route (W : World) (x : Tr) (hx : Sm x) {r : Int} (hr : Hid (r = if chk x = 0 then 5 else chk x)) : Calls Try.prog 24 #[.pointer none, .agg #[.int .i64 x.n, .string x.b, .string x.s, .string x.i, .int .i64 x.q, .int .i64 x.p]] W fun e w' => e = .returned (.tuple #[.int .i64 0, .int .i64 0, .int .i64 r]) ∧ Below W.heap.size W w' := by
  refine route_any W none 0 [] [] x (nil_r W) List.Pairwise.nil List.Pairwise.nil (by decide) (by decide) hx (Lib.hid ?_)
  rw [hr.out]
  unfold routeV
  by_cases h : chk x = 0
  · rw [if_pos h, if_pos h]; rfl
  · rw [if_neg h, if_neg h]
theorem nil_local (W : World) (x : Tr) (hx : Sm x) : Calls Try.prog 27 #[.pointer none, .agg #[.int .i64 x.n, .string x.b, .string x.s, .string x.i, .int .i64 x.q, .int .i64 x.p]] W fun e w' => e = .returned (.bool false) ∧ Below W.heap.size W w' := by
  refine local_any W none 0 [] [] x (nil_r W) List.Pairwise.nil List.Pairwise.nil (by decide) (by decide) hx (Lib.hid ?_)
  unfold localB routeV
  by_cases h : chk x = 0
  · rw [if_pos h]; rfl
  · rw [if_neg h]
    show false = (decide (chk x = 0) && _)
    rw [decide_eq_false h]; rfl

theorem of_below (W : World) (x : Tr) : Calls Try.prog 26 #[.agg #[.int .i64 x.n, .string x.b, .string x.s, .string x.i, .int .i64 x.q, .int .i64 x.p]] W fun e w' => e = .returned (.agg #[.int .i64 x.n, .string x.b, .string x.s, .string x.i, .int .i64 x.q, .int .i64 x.p]) ∧ Below W.heap.size W w' := by
  refine (of_exact W x).mono ?_
  rintro e w' ⟨he, hw⟩
  refine ⟨he, ?_⟩
  rw [hw]
  have h1 : Below W.heap.size W (W.alloc (.cells #[.int .i64 x.n, .string x.b, .string x.s, .string x.i, .int .i64 x.q, .int .i64 x.p] 50)) := (Below.refl _ _).alloc (Nat.le_refl _) _
  exact h1.alloc h1.size _
set_option maxRecDepth 100000 in
set_option maxHeartbeats 8000000 in
theorem law_nil (w : World) (s : ByteArray) (k : Int) (t : Tr) : Calls Try.prog 6 #[.string s, .int .i64 k, .agg #[.int .i64 t.n, .string t.b, .string t.s, .string t.i, .int .i64 t.q, .int .i64 t.p]] w fun e w' => e = .returned (.bool true) ∧ Below w.heap.size w w' := by
  obtain ⟨y, hy⟩ : ∃ y, y = cutT t := ⟨_, rfl⟩
  have HY := Lib.hid hy
  have SY : Hid (Sm y) := by rw [hy]; exact ⟨Nat.le_trans (cut40_size _) (by decide), Nat.le_trans (cut40_size _) (by decide), Nat.le_trans (cut40_size _) (by decide)⟩
  obtain ⟨c, hc⟩ : ∃ c, c = chk y := ⟨_, rfl⟩
  obtain ⟨r, hr⟩ : ∃ r, r = if chk y = 0 then 5 else chk y := ⟨_, rfl⟩
  have HC := Lib.hid hc
  have HR := Lib.hid hr
  rw [← hc] at hr
  have HRC := Lib.hid hr
  clear hy hc hr
  have HB0 : Hid (Below w.heap.size w (w.alloc (.cells #[.int .i64 t.n, .string t.b, .string t.s, .string t.i, .int .i64 t.q, .int .i64 t.p] 49))) := (Below.refl _ _).alloc (Nat.le_refl _) _
  have hbx := block_new w (.cells #[.int .i64 t.n, .string t.b, .string t.s, .string t.i, .int .i64 t.q, .int .i64 t.p] 49)
  have HBX := Lib.hid hbx
  clear hbx
  by_cases hz : c = 0
  · have HRR : Hid (r = 5) := by show _ = _; rw [HRC.out, if_pos hz]
    have HFIN := HRR.out
    clear HRC
    subst hz
    subst HFIN
    go_enter Try.func6, Try.ntmps6
    go_wp2_with (first
      | (go_at_call 12; refine (nil_home _ _).mono ?_; rintro e w1 ⟨rfl, hb1⟩; obtain ⟨x0, x1, x2, x3, x4, x5⟩ := blk6 (block_kept HBX.out hb1); have HB1 := Lib.hid (HB0.out.trans (hb1.mono HB0.out.size)); clear hb1)
      | (go_at_call 23; refine (to_exact _ t y HY).mono ?_; rintro e w2 ⟨rfl, hw2⟩; have HB2 : Hid (Below w.heap.size w w2) := (by rw [hw2]; exact ((HB1.out.alloc HB1.out.size _).alloc (HB1.out.alloc HB1.out.size _).size _).drew); have HB3 : Hid (Below w.heap.size w (w2.alloc (.cells #[.int .i64 y.n, .string y.b, .string y.s, .string y.i, .int .i64 y.q, .int .i64 y.p] 50))) := HB2.out.alloc HB2.out.size _; have HBY := Lib.hid (block_new w2 (.cells #[.int .i64 y.n, .string y.b, .string y.s, .string y.i, .int .i64 y.q, .int .i64 y.p] 50)); clear hw2)
      | (go_at_call 24; refine (nil_route _ y SY.out HR).mono ?_; rintro e w3 ⟨rfl, hb3⟩; have BY3 := Lib.hid (block_kept HBY.out hb3); obtain ⟨y0, y1, y2, y3, y4, y5⟩ := blk6 BY3.out; have HB4 := Lib.hid (HB3.out.trans (hb3.mono HB3.out.size)); clear hb3)
      | (go_at_call 26; refine (of_below _ y).mono ?_; rintro e w4 ⟨rfl, hb4⟩; have BY4 := Lib.hid (block_kept BY3.out hb4); have HB5 := Lib.hid (HB4.out.trans (hb4.mono HB4.out.size)); clear hb4)
      | (go_at_call 28; refine (rcheck_any _ y SY.out HC).mono ?_; rintro e w5 ⟨rfl, hb5⟩; have BY5 := Lib.hid (block_kept BY4.out hb5); have HB6 := Lib.hid (HB5.out.trans (hb5.mono HB5.out.size)); clear hb5)
      | (go_at_call 9; refine (known_any _).mono ?_; rintro e w6 ⟨rfl, hb6⟩; have BY6 := Lib.hid (block_kept BY5.out hb6); have HB7 := Lib.hid (HB6.out.trans (hb6.mono HB6.out.size)); clear hb6)
      | (go_at_call 11; refine (nil_nodes _).mono ?_; rintro e w7 ⟨rfl, hb7⟩; have BY7 := Lib.hid (block_kept BY6.out hb7); have HB8 := Lib.hid (HB7.out.trans (hb7.mono HB7.out.size)); clear hb7)
      | (go_at_call 14; refine (nil_members _ _).mono ?_; rintro e w8 ⟨A8, c8, rfl, hb8⟩; have BY8 := Lib.hid (block_kept BY7.out hb8); have HB9 := Lib.hid (HB8.out.trans (hb8.mono HB8.out.size)); clear hb8)
      | (go_at_call 15; refine (nil_isins _).mono ?_; rintro e w9 ⟨A9, c9, rfl, hb9⟩; have BY9 := Lib.hid (block_kept BY8.out hb9); have HB10 := Lib.hid (HB9.out.trans (hb9.mono HB9.out.size)); clear hb9)
      | (go_at_call 19; refine (nil_has _ _).mono ?_; rintro e w10 ⟨rfl, hb10⟩; have BY10 := Lib.hid (block_kept BY9.out hb10); have HB11 := Lib.hid (HB10.out.trans (hb10.mono HB10.out.size)); clear hb10)
      | (go_at_call 22; refine (nil_peers _ _).mono ?_; rintro e w11 ⟨A11, c11, rfl, hb11⟩; have BY11 := Lib.hid (block_kept BY10.out hb11); obtain ⟨z0, z1, z2, z3, z4, z5⟩ := blk6 BY11.out; have HB12 := Lib.hid (HB11.out.trans (hb11.mono HB11.out.size)); clear hb11)
      | (go_at_call 27; refine (nil_local _ y SY.out).mono ?_; rintro e w12 ⟨rfl, hb12⟩; have HB13 := Lib.hid (HB12.out.trans (hb12.mono HB12.out.size)); clear hb12))
    go_ret
    exact ⟨rfl, HB13.out⟩
  · have HRR : Hid (r = c) := by show _ = _; rw [HRC.out, if_neg hz]
    have hz' : (c == 0) = false := by simpa using hz
    have HFIN := HRR.out
    clear HRC
    subst HFIN
    go_enter Try.func6, Try.ntmps6
    go_wp2_with (first
      | (go_at_call 12; refine (nil_home _ _).mono ?_; rintro e w1 ⟨rfl, hb1⟩; obtain ⟨x0, x1, x2, x3, x4, x5⟩ := blk6 (block_kept HBX.out hb1); have HB1 := Lib.hid (HB0.out.trans (hb1.mono HB0.out.size)); clear hb1)
      | (go_at_call 23; refine (to_exact _ t y HY).mono ?_; rintro e w2 ⟨rfl, hw2⟩; have HB2 : Hid (Below w.heap.size w w2) := (by rw [hw2]; exact ((HB1.out.alloc HB1.out.size _).alloc (HB1.out.alloc HB1.out.size _).size _).drew); have HB3 : Hid (Below w.heap.size w (w2.alloc (.cells #[.int .i64 y.n, .string y.b, .string y.s, .string y.i, .int .i64 y.q, .int .i64 y.p] 50))) := HB2.out.alloc HB2.out.size _; have HBY := Lib.hid (block_new w2 (.cells #[.int .i64 y.n, .string y.b, .string y.s, .string y.i, .int .i64 y.q, .int .i64 y.p] 50)); clear hw2)
      | (go_at_call 24; refine (nil_route _ y SY.out HR).mono ?_; rintro e w3 ⟨rfl, hb3⟩; have BY3 := Lib.hid (block_kept HBY.out hb3); obtain ⟨y0, y1, y2, y3, y4, y5⟩ := blk6 BY3.out; have HB4 := Lib.hid (HB3.out.trans (hb3.mono HB3.out.size)); clear hb3)
      | (go_at_call 26; refine (of_below _ y).mono ?_; rintro e w4 ⟨rfl, hb4⟩; have BY4 := Lib.hid (block_kept BY3.out hb4); have HB5 := Lib.hid (HB4.out.trans (hb4.mono HB4.out.size)); clear hb4)
      | (go_at_call 28; refine (rcheck_any _ y SY.out HC).mono ?_; rintro e w5 ⟨rfl, hb5⟩; have BY5 := Lib.hid (block_kept BY4.out hb5); have HB6 := Lib.hid (HB5.out.trans (hb5.mono HB5.out.size)); clear hb5)
      | (go_at_call 9; refine (known_any _).mono ?_; rintro e w6 ⟨rfl, hb6⟩; have BY6 := Lib.hid (block_kept BY5.out hb6); have HB7 := Lib.hid (HB6.out.trans (hb6.mono HB6.out.size)); clear hb6)
      | (go_at_call 11; refine (nil_nodes _).mono ?_; rintro e w7 ⟨rfl, hb7⟩; have BY7 := Lib.hid (block_kept BY6.out hb7); have HB8 := Lib.hid (HB7.out.trans (hb7.mono HB7.out.size)); clear hb7)
      | (go_at_call 14; refine (nil_members _ _).mono ?_; rintro e w8 ⟨A8, c8, rfl, hb8⟩; have BY8 := Lib.hid (block_kept BY7.out hb8); have HB9 := Lib.hid (HB8.out.trans (hb8.mono HB8.out.size)); clear hb8)
      | (go_at_call 15; refine (nil_isins _).mono ?_; rintro e w9 ⟨A9, c9, rfl, hb9⟩; have BY9 := Lib.hid (block_kept BY8.out hb9); have HB10 := Lib.hid (HB9.out.trans (hb9.mono HB9.out.size)); clear hb9)
      | (go_at_call 19; refine (nil_has _ _).mono ?_; rintro e w10 ⟨rfl, hb10⟩; have BY10 := Lib.hid (block_kept BY9.out hb10); have HB11 := Lib.hid (HB10.out.trans (hb10.mono HB10.out.size)); clear hb10)
      | (go_at_call 22; refine (nil_peers _ _).mono ?_; rintro e w11 ⟨A11, c11, rfl, hb11⟩; have BY11 := Lib.hid (block_kept BY10.out hb11); obtain ⟨z0, z1, z2, z3, z4, z5⟩ := blk6 BY11.out; have HB12 := Lib.hid (HB11.out.trans (hb11.mono HB11.out.size)); clear hb11)
      | (go_at_call 27; refine (nil_local _ y SY.out).mono ?_; rintro e w12 ⟨rfl, hb12⟩; have HB13 := Lib.hid (HB12.out.trans (hb12.mono HB12.out.size)); clear hb12))
    go_ret
    exact ⟨rfl, HB13.out⟩
end Go.Proofs.Ytkoihpfgleboiaa.Ro
