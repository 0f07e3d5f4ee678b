/-
  The contracts of Hear. Conditions: numbers of 64 bits.
-/
import Derived.Test.YtganokcmcdkdgaaGreatPZ20
import Derived.BigQuiet
namespace Go.Proofs.YtganokcmcdkdgaaGreat.Pi
open Go.RowKit Wi Tb Wi.S

abbrev zP : Value := .agg #[.int .i64 0, .int .i64 0, .int .i64 0, .int .i64 0, .slice none 0 0]
/-- The memory ahead of Hear's body: the packet that is heard, the one that is told. -/
structure HW (w W : World) (x0 x1 x2 x3 x4 : Value) : Prop where
  x : W.heap[w.heap.size]? = some (.cells #[x0, x1, x2, x3, x4] 25 (0, 0))
  z : W.heap[w.heap.size + 1]? = some (.cells #[.int .i64 0, .int .i64 0, .int .i64 0, .int .i64 0, .slice none 0 0] 25 (0, 0))
  b : Below w.heap.size w W
  s : w.heap.size + 2 ≤ W.heap.size
theorem HW.new (w : World) (x0 x1 x2 x3 x4 : Value) : HW w ((w.alloc (.cells #[x0, x1, x2, x3, x4] 25)).alloc (.cells #[.int .i64 0, .int .i64 0, .int .i64 0, .int .i64 0, .slice none 0 0] 25)) x0 x1 x2 x3 x4 := by
  have hz : (w.alloc (.cells #[x0, x1, x2, x3, x4] 25)).heap.size = w.heap.size + 1 := by simp
  have h1 := Tb.block_new (w.alloc (.cells #[x0, x1, x2, x3, x4] 25)) (.cells #[.int .i64 0, .int .i64 0, .int .i64 0, .int .i64 0, .slice none 0 0] 25)
  rw [hz] at h1
  exact ⟨Tb.block_old (Tb.block_new _ _) _, h1, ((Below.refl _ w).alloc (Nat.le_refl _) _).alloc (by simp) _, by simp⟩
theorem HW.below {w W W' : World} {x0 x1 x2 x3 x4 : Value} (h : HW w W x0 x1 x2 x3 x4) (hb : Below W.heap.size W W') : HW w W' x0 x1 x2 x3 x4 :=
  ⟨Tb.block_kept h.x hb, Tb.block_kept h.z hb, h.b.trans (hb.mono h.b.size), Nat.le_trans h.s hb.size⟩
section
variable {w0 w w' : World} {b a : Nat} {s p nx : Int} {sv rv : Value} {xs : List ByteArray} {l : List Rw}
/-- The pipe there. -/
theorem HW.px {W : World} {x0 x1 x2 x3 x4 : Value} (h : HW w W x0 x1 x2 x3 x4) (k : PX w0 w b s p sv a xs nx rv l) : PX w0 W b s p sv a xs nx rv l := k.below h.b
theorem HW.change {W W2 : World} {x0 x1 x2 x3 x4 : Value} (h : HW w W x0 x1 x2 x3 x4) (k : PX w0 w b s p sv a xs nx rv l) (hk : Kept (OwnP b sv rv) W W2) : W2.heap[w.heap.size]? = some (.cells #[x0, x1, x2, x3, x4] 25 (0, 0)) ∧ W2.heap[w.heap.size + 1]? = some (.cells #[.int .i64 0, .int .i64 0, .int .i64 0, .int .i64 0, .slice none 0 0] 25 (0, 0)) ∧ Kept (OwnP b sv rv) w W2 :=
  ⟨(hk.block _ (by have := h.s; omega) (k.notNew (Nat.le_refl _))).trans h.x, (hk.block _ (by have := h.s; omega) (k.notNew (Nat.le_succ _))).trans h.z, keptNew (Kept.of_below h.b) hk (fun i _ e => e)⟩
set_option maxRecDepth 100000 in
set_option maxHeartbeats 4000000 in
/-- A packet of whatever kind that isn't from the peer to self. -/
theorem hear_name {k f t n : Int} {A : Option Addr} {q c : Nat} (h : PX w0 w b s p sv a xs nx rv l) (hsp : s ≠ p) (hx : ¬ (f = p ∧ t = s)) :
    Calls Tryz.prog 35 #[.pointer (some ⟨b, 0, none⟩), .agg #[.int .i64 k, .int .i64 f, .int .i64 t, .int .i64 n, .slice A q c]] w fun e w' => e = .returned (.tuple #[zP, .bool false, .int .i64 5]) ∧ Below w.heap.size w w' := by
  have HN := Lib.hid (HW.new w (.int .i64 k) (.int .i64 f) (.int .i64 t) (.int .i64 n) (.slice A q c))
  have hm := made_any (HN.out.px h).pi
  rw [decide_eq_true hsp] at hm
  have HM := Lib.hid hm
  have H := Lib.hid h
  clear hm h hsp
  go_enter Tryz.func35, Tryz.ntmps35
  go_upto_region 3 with (go_at_call 60; (with_reducible refine HM.out.mono ?_); rintro e w1 ⟨rfl, hb⟩; have HW1 := Lib.hid (HN.out.below hb); clear hb)
  obtain ⟨c0, c1, c2, c3, c4⟩ := blk5 HW1.out.x
  have d0 := (HW1.out.px H.out).pi.six.c0
  have d1 := (HW1.out.px H.out).pi.six.c1
  by_cases h1 : f = p
  · have h2 : ¬ t = s := fun e => hx ⟨h1, e⟩
    subst h1
    have q1 : (f != f) = false := by simp
    have q2 : (t != s) = true := by simpa using h2
    clear hx
    go_quiet (fail)
    have HW2 := Lib.hid (HW1.out.below (Fr.below_drewN (Below.refl _ w1) nq))
    obtain ⟨r0, r1, r2, r3, r4⟩ := blk5 HW2.out.z
    have fz := fro5 HW2.out.z
    clear c0 c1 c2 c3 c4 d0 d1
    generalize w1.drewN nq = W2 at HW2 r0 r1 r2 r3 r4 fz ⊢
    go_wp2
    refine bodyPost_ret (v := .tuple #[zP, .bool false, .int .i64 5]) (by simp [results, Tryz.results35, go_sem, r0, r1, r2, r3, r4]) rfl ⟨rfl, ?_⟩
    exact ((((HW2.out.b.setCell (Nat.le_succ _) _).setCell (Nat.le_succ _) _).setCell (Nat.le_succ _) _).setCell (Nat.le_succ _) _).setCell (Nat.le_succ _) _
  · have q1 : (f != p) = true := by simpa using h1
    clear hx
    go_quiet (fail)
    have HW2 := Lib.hid (HW1.out.below (Fr.below_drewN (Below.refl _ w1) nq))
    obtain ⟨r0, r1, r2, r3, r4⟩ := blk5 HW2.out.z
    have fz := fro5 HW2.out.z
    clear c0 c1 c2 c3 c4 d0 d1
    generalize w1.drewN nq = W2 at HW2 r0 r1 r2 r3 r4 fz ⊢
    go_wp2
    refine bodyPost_ret (v := .tuple #[zP, .bool false, .int .i64 5]) (by simp [results, Tryz.results35, go_sem, r0, r1, r2, r3, r4]) rfl ⟨rfl, ?_⟩
    exact ((((HW2.out.b.setCell (Nat.le_succ _) _).setCell (Nat.le_succ _) _).setCell (Nat.le_succ _) _).setCell (Nat.le_succ _) _).setCell (Nat.le_succ _) _
set_option maxRecDepth 100000 in
set_option maxHeartbeats 4000000 in
/-- One of no kind. -/
theorem hear_none {k n : Int} {A : Option Addr} {q c : Nat} (h : PX w0 w b s p sv a xs nx rv l) (hsp : s ≠ p) (h1 : ¬ k = 1) (h2 : ¬ k = 2) :
    Calls Tryz.prog 35 #[.pointer (some ⟨b, 0, none⟩), .agg #[.int .i64 k, .int .i64 p, .int .i64 s, .int .i64 n, .slice A q c]] w fun e w' => e = .returned (.tuple #[zP, .bool false, .int .i64 1]) ∧ Below w.heap.size w w' := by
  have HN := Lib.hid (HW.new w (.int .i64 k) (.int .i64 p) (.int .i64 s) (.int .i64 n) (.slice A q c))
  have hm := made_any (HN.out.px h).pi
  rw [decide_eq_true hsp] at hm
  have HM := Lib.hid hm
  have H := Lib.hid h
  have q1 : (p != p) = false := by simp
  have q2 : (s != s) = false := by simp
  have e1 : (k == 1) = false := by simpa using h1
  have e2 : (k == 2) = false := by simpa using h2
  clear hm h hsp
  go_enter Tryz.func35, Tryz.ntmps35
  go_upto_region 3 with (go_at_call 60; (with_reducible refine HM.out.mono ?_); rintro e w1 ⟨rfl, hb⟩; have HW1 := Lib.hid (HN.out.below hb); clear hb)
  obtain ⟨c0, c1, c2, c3, c4⟩ := blk5 HW1.out.x
  have d0 := (HW1.out.px H.out).pi.six.c0
  have d1 := (HW1.out.px H.out).pi.six.c1
  go_quiet (fail)
  have HW2 := Lib.hid (HW1.out.below (Fr.below_drewN (Below.refl _ w1) nq))
  clear c0 c1 c2 c3 c4 d0 d1
  obtain ⟨c0, c1, c2, c3, c4⟩ := blk5 HW2.out.x
  obtain ⟨r0, r1, r2, r3, r4⟩ := blk5 HW2.out.z
  have fz := fro5 HW2.out.z
  generalize w1.drewN nq = W2 at HW2 r0 r1 r2 r3 r4 fz c0 c1 c2 c3 c4 ⊢
  go_wp2
  refine bodyPost_ret (v := .tuple #[zP, .bool false, .int .i64 1]) (by simp [results, Tryz.results35, go_sem, r0, r1, r2, r3, r4]) rfl ⟨rfl, ?_⟩
  exact ((((HW2.out.b.setCell (Nat.le_succ _) _).setCell (Nat.le_succ _) _).setCell (Nat.le_succ _) _).setCell (Nat.le_succ _) _).setCell (Nat.le_succ _) _
set_option maxRecDepth 100000 in
set_option maxHeartbeats 4000000 in
/-- An Ack. -/
theorem hear_ack {n : Int} {A : Option Addr} {q c : Nat} (h : PX w0 w b s p sv a xs nx rv l) (hsp : s ≠ p) :
    Calls Tryz.prog 35 #[.pointer (some ⟨b, 0, none⟩), .agg #[.int .i64 2, .int .i64 p, .int .i64 s, .int .i64 n, .slice A q c]] w fun e w' => e = .returned (.tuple #[zP, .bool false, .int .i64 0]) ∧ PX w0 w' b s p sv (ackN a xs.length n) xs nx rv l ∧ Kept (OwnP b sv rv) w w' := by
  have HN := Lib.hid (HW.new w (.int .i64 2) (.int .i64 p) (.int .i64 s) (.int .i64 n) (.slice A q c))
  have hm := made_any (HN.out.px h).pi
  rw [decide_eq_true hsp] at hm
  have HM := Lib.hid hm
  have H := Lib.hid h
  have q1 : (p != p) = false := by simp
  have q2 : (s != s) = false := by simp
  have HA : Hid (∀ W, HW w W (.int .i64 2) (.int .i64 p) (.int .i64 s) (.int .i64 n) (.slice A q c) → Calls Tryz.prog 68 #[.pointer (some ⟨b, 2, none⟩), .int .i64 n] W fun e w' => e = .returned (.int .i64 ((ackN a xs.length n : Nat) : Int)) ∧ PX w0 w' b s p sv (ackN a xs.length n) xs nx rv l ∧ w'.heap[w.heap.size]? = some (.cells #[.int .i64 2, .int .i64 p, .int .i64 s, .int .i64 n, .slice A q c] 25 (0, 0)) ∧ w'.heap[w.heap.size + 1]? = some (.cells #[.int .i64 0, .int .i64 0, .int .i64 0, .int .i64 0, .slice none 0 0] 25 (0, 0)) ∧ Kept (OwnP b sv rv) w w') := fun W hW => by
    have hx := hW.px h
    refine (Wi.S.ack_any hx.pi.o n).mono ?_
    rintro e w1 ⟨he, o1, k1⟩
    have k2 : Kept (Wi.Own b sv) W w1 := k1.mono (fun i _ e => .inl e)
    have k3 : Kept (OwnP b sv rv) W w1 := k2.mono (fun i _ e => ownO e)
    exact ⟨he, hx.step (hx.pi.ofO o1 k2 (Nw.refl _ _)) k3 (Nw.refl _ _) (Nw.refl _ _), hW.change h k3⟩
  obtain ⟨m, hm2⟩ : ∃ m, m = ackN a xs.length n := ⟨_, rfl⟩
  rw [← hm2] at HA ⊢
  clear hm h hsp hm2
  go_enter Tryz.func35, Tryz.ntmps35
  go_upto_region 3 with (go_at_call 60; (with_reducible refine HM.out.mono ?_); rintro e w1 ⟨rfl, hb⟩; have HW1 := Lib.hid (HN.out.below hb); clear hb)
  obtain ⟨c0, c1, c2, c3, c4⟩ := blk5 HW1.out.x
  have d0 := (HW1.out.px H.out).pi.six.c0
  have d1 := (HW1.out.px H.out).pi.six.c1
  go_quiet (fail)
  have HW2 := Lib.hid (HW1.out.below (Fr.below_drewN (Below.refl _ w1) nq))
  clear c0 c1 c2 c3 c4 d0 d1
  generalize w1.drewN nq = W2 at HW2 ⊢
  obtain ⟨c0, c1, c2, c3, c4⟩ := blk5 HW2.out.x
  have HW3 := Lib.hid (HW2.out.below (Below.refl _ W2).drew)
  have d3 := (blk5 HW3.out.x).2.2.2.1
  go_upto_region 10 with fail
  go_region_held3 (fun w' => w'.cell? ⟨w.heap.size, 3, none⟩ = some (.int .i64 n)) (first | exact d3 | exact k3)
    (first
      | (go_at_call 68; (with_reducible refine (HA.out _ HW3.out).mono ?_); rintro e w4 ⟨rfl, g1, g2, g3, g4⟩; have G1 := Lib.hid g1; have G4 := Lib.hid g4; have G3 := Lib.hid g3; have k3 := (blk5 g2).2.2.2.1; clear g1 g2 g3 g4))
  all_goals
    obtain ⟨r0, r1, r2, r3, r4⟩ := blk5 G3.out
    have fz := fro5 G3.out
    go_wp2
    refine bodyPost_ret (v := .tuple #[zP, .bool false, .int .i64 0]) (by simp [results, Tryz.results35, go_sem, r0, r1, r2, r3, r4]) rfl ⟨rfl, ?_⟩
    have hk := kept5 w4 (w.heap.size + 1) (.int .i64 0) (.int .i64 0) (.int .i64 0) (.int .i64 0) (.slice none 0 0)
    exact ⟨G1.out.at hk (G1.out.pi.other G3.out (by decide) (by decide) (by decide)) (Nat.le_trans H.out.bel.size (Nat.le_succ _)), keptNew G4.out hk (fun i hi e => by omega)⟩
set_option maxRecDepth 100000 in
set_option maxHeartbeats 4000000 in
/-- Data. -/
theorem hear_data {n : Int} {A : Option Addr} {q c : Nat} {lb : List Int} (h : PX w0 w b s p sv a xs nx rv l) (hsp : s ≠ p) (hn : n ≤ 9223372036854775807) (hu : Fr.BAt w (.slice A q c) lb) (hbk : Fr.bok lb) :
    Calls Tryz.prog 35 #[.pointer (some ⟨b, 0, none⟩), .agg #[.int .i64 1, .int .i64 p, .int .i64 s, .int .i64 n, .slice A q c]] w fun e w' => e = .returned (.tuple #[.agg #[.int .i64 2, .int .i64 s, .int .i64 p, .int .i64 nx, .slice none 0 0], .bool true, .int .i64 (keE nx l n)]) ∧ ∃ rv', PX w0 w' b s p sv a xs nx rv' (offL nx l n (strOf lb)) ∧ Kept (OwnP b sv rv) w w' ∧ Nw w rv rv' := by
  have HN := Lib.hid (HW.new w (.int .i64 1) (.int .i64 p) (.int .i64 s) (.int .i64 n) (.slice A q c))
  have hm := made_any (HN.out.px h).pi
  rw [decide_eq_true hsp] at hm
  have HM := Lib.hid hm
  have H := Lib.hid h
  have q1 : (p != p) = false := by simp
  have q2 : (s != s) = false := by simp
  have HA : Hid (∀ W, HW w W (.int .i64 1) (.int .i64 p) (.int .i64 s) (.int .i64 n) (.slice A q c) → Calls Tryz.prog 66 #[.pointer (some ⟨b, 4, none⟩), .int .i64 n, .slice A q c] W fun e w' => e = .returned (.int .i64 (keE nx l n)) ∧ ∃ rv', PX w0 w' b s p sv a xs nx rv' (offL nx l n (strOf lb)) ∧ Nw w rv rv' ∧ w'.heap[w.heap.size]? = some (.cells #[.int .i64 1, .int .i64 p, .int .i64 s, .int .i64 n, .slice A q c] 25 (0, 0)) ∧ w'.heap[w.heap.size + 1]? = some (.cells #[.int .i64 0, .int .i64 0, .int .i64 0, .int .i64 0, .slice none 0 0] 25 (0, 0)) ∧ Kept (OwnP b sv rv) w w') := fun W hW => by
    have hx := hW.px h
    refine (keep_any hx.pi n hn (hu.kept hW.b) hbk).mono ?_
    rintro e w1 ⟨he, rv', o1, k3, n1⟩
    exact ⟨he, rv', hx.step o1 k3 (Nw.refl _ _) n1, NwT (Nw.refl _ _) n1 hW.b.size, hW.change h k3⟩
  obtain ⟨z, hz⟩ : ∃ z, z = keE nx l n := ⟨_, rfl⟩
  obtain ⟨l2, hl2⟩ : ∃ l2, l2 = offL nx l n (strOf lb) := ⟨_, rfl⟩
  rw [← hz, ← hl2] at HA ⊢
  clear hm h hsp hz hl2 hu hbk
  go_enter Tryz.func35, Tryz.ntmps35
  go_upto_region 3 with (go_at_call 60; (with_reducible refine HM.out.mono ?_); rintro e w1 ⟨rfl, hb⟩; have HW1 := Lib.hid (HN.out.below hb); clear hb)
  obtain ⟨c0, c1, c2, c3, c4⟩ := blk5 HW1.out.x
  have d0 := (HW1.out.px H.out).pi.six.c0
  have d1 := (HW1.out.px H.out).pi.six.c1
  go_quiet (fail)
  have HW2 := Lib.hid (HW1.out.below (Fr.below_drewN (Below.refl _ w1) nq))
  clear c0 c1 c2 c3 c4 d0 d1
  generalize w1.drewN nq = W2 at HW2 ⊢
  obtain ⟨c0, c1, c2, c3, c4⟩ := blk5 HW2.out.x
  have HW3 := Lib.hid (HW2.out.below (Below.refl _ W2).drew)
  have d3 := (blk5 HW3.out.x).2.2.2
  go_upto_region 7 with fail
  go_region_held3 (fun w' => w'.cell? ⟨w.heap.size, 3, none⟩ = some (.int .i64 n) ∧ w'.cell? ⟨w.heap.size, 4, none⟩ = some (.slice A q c)) (first | exact d3 | exact k3)
    (first
      | (go_at_call 66; (with_reducible refine (HA.out _ HW3.out).mono ?_); rintro e w4 ⟨rfl, rv', g1, g5, g2, g3, g4⟩; have G1 := Lib.hid g1; have G4 := Lib.hid g4; have G3 := Lib.hid g3; have G5 := Lib.hid g5; have k3 := (blk5 g2).2.2.2; have HK := Lib.hid (ack_any g1.pi); clear g1 g2 g3 g4 g5))
  all_goals
    go_wp2_with (go_at_call 67; (with_reducible refine HK.out.mono ?_); rintro e w5 ⟨rfl, hb⟩; have h2 := Tb.block_kept G3.out hb; obtain ⟨r0, r1, r2, r3, r4⟩ := blk5 h2; have fz := fro5 h2; have HB := Lib.hid hb; have HZ := Lib.hid h2; clear hb h2)
    refine bodyPost_ret (v := .tuple #[.agg #[.int .i64 2, .int .i64 s, .int .i64 p, .int .i64 nx, .slice none 0 0], .bool true, .int .i64 z]) (by simp [results, Tryz.results35, go_sem, r0, r1, r2, r3, r4]) rfl ⟨rfl, rv', ?_⟩
    have hk := kept5 w5 (w.heap.size + 1) (.int .i64 2) (.int .i64 s) (.int .i64 p) (.int .i64 nx) (.slice none 0 0)
    have g9 := G1.out.below HB.out
    exact ⟨g9.at hk (g9.pi.other HZ.out (by decide) (by decide) (by decide)) (Nat.le_trans H.out.bel.size (Nat.le_succ _)), keptNew (keptNew G4.out (Kept.of_below (S := fun _ => False) HB.out) (fun i _ e => e.elim)) hk (fun i hi e => by omega), G5.out⟩
end
end Go.Proofs.YtganokcmcdkdgaaGreat.Pi
