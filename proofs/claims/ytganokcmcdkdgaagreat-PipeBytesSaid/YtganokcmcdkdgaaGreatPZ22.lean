/-
  Two pipes in one memory; the law's fixed question answers true. Conditions: none.
-/
import Derived.Test.YtganokcmcdkdgaaGreatUHear
import Derived.Test.YtganokcmcdkdgaaGreatPZ21
import Derived.Lib.SlBytesConst
import Derived.Test.YtganokcmcdkdgaaGreatUPipe
namespace Go.Proofs.YtganokcmcdkdgaaGreat.Pi
open Go.RowKit Wi Tb Wi.S

/-- Two pipes that are new since w0. -/
structure TW (w0 w : World) (b : Nat) (s p : Int) (sv : Value) (a : Nat) (xs : List ByteArray) (nx : Int) (rv : Value) (l : List Rw) (b' : Nat) (s' p' : Int) (sv' : Value) (a' : Nat) (xs' : List ByteArray) (nx' : Int) (rv' : Value) (l' : List Rw) : Prop where
  x : PX w0 w b s p sv a xs nx rv l
  y : PX w0 w b' s' p' sv' a' xs' nx' rv' l'
  d : ∀ i, OwnP b sv rv i → ¬ OwnP b' sv' rv' i
section
variable {w0 w w' : World} {b a b' a' : Nat} {s p nx s' p' nx' : Int} {sv rv sv' rv' : Value} {xs xs' : List ByteArray} {l l' : List Rw}
theorem TW.below (h : TW w0 w b s p sv a xs nx rv l b' s' p' sv' a' xs' nx' rv' l') (hb : Below w.heap.size w w') : TW w0 w' b s p sv a xs nx rv l b' s' p' sv' a' xs' nx' rv' l' := ⟨h.x.below hb, h.y.below hb, h.d⟩
theorem other_pipe (h : PX w0 w b s p sv a xs nx rv l) {S : Nat → Prop} (hk : Kept S w w') (hd : ∀ i, OwnP b sv rv i → ¬ S i) (hn : ∀ i, S i → w0.heap.size ≤ i) : PX w0 w' b s p sv a xs nx rv l :=
  ⟨h.pi.keep hk hd, ⟨hk.os.trans h.bel.os, hk.tape.trans h.bel.tape, hk.output.trans h.bel.output, Nat.le_trans h.bel.size hk.size, fun i hi => (hk.block i (Nat.lt_of_lt_of_le hi h.bel.size) (fun e => by have := hn i e; omega)).trans (h.bel.block i hi)⟩, h.new⟩
theorem TW.left {a2 : Nat} {nx2 : Int} {sv2 rv2 : Value} {xs2 : List ByteArray} {l2 : List Rw} (h : TW w0 w b s p sv a xs nx rv l b' s' p' sv' a' xs' nx' rv' l') (k : PX w0 w' b s p sv2 a2 xs2 nx2 rv2 l2) (hk : Kept (OwnP b sv rv) w w') (n1 : Nw w sv sv2) (n2 : Nw w rv rv2) : TW w0 w' b s p sv2 a2 xs2 nx2 rv2 l2 b' s' p' sv' a' xs' nx' rv' l' :=
  ⟨k, other_pipe h.y hk (fun i hi e => h.d i e hi) h.x.new, fun i hi e => by
    have he := h.y.pi.lt i e
    rcases hi with h1 | h1 | h1
    · exact h.d i (.inl h1) e
    · rcases n1 i h1 with h2 | h2
      · exact h.d i (.inr (.inl h2)) e
      · omega
    · rcases n2 i h1 with h2 | h2
      · exact h.d i (.inr (.inr h2)) e
      · omega⟩
theorem TW.swap (h : TW w0 w b s p sv a xs nx rv l b' s' p' sv' a' xs' nx' rv' l') : TW w0 w b' s' p' sv' a' xs' nx' rv' l' b s p sv a xs nx rv l := ⟨h.y, h.x, fun i hi e => h.d i e hi⟩
theorem TW.new (h : PX w0 w b s p sv a xs nx rv l) (k : PX w w' b' s' p' sv' a' xs' nx' rv' l') : TW w0 w' b s p sv a xs nx rv l b' s' p' sv' a' xs' nx' rv' l' :=
  ⟨h.below k.bel, ⟨k.pi, h.bel.trans (k.bel.mono h.bel.size), fun i hi => Nat.le_trans h.bel.size (k.new i hi)⟩, fun i hi e => by have h1 := h.pi.lt i hi; have h2 := k.new i e; omega⟩
end
abbrev sX : ByteArray := ⟨#[120]⟩
theorem lit_x (N0 : Nat) (W : World) : BBF N0 ((W.alloc (.cells #[.int .u8 120] 5 (1, 2))).alloc (.cells #[.slice (some ⟨W.heap.size, 0, none⟩) 1 1] 22)) (.slice (some ⟨W.heap.size + 1, 0, none⟩) 1 1) [[120]] := by
  have h0 := Tb.block_new W (.cells #[.int .u8 120] 5 (1, 2))
  have hz : (W.alloc (.cells #[.int .u8 120] 5 (1, 2))).heap.size = W.heap.size + 1 := by simp
  have h1 := Tb.block_new (W.alloc (.cells #[.int .u8 120] 5 (1, 2))) (.cells #[.slice (some ⟨W.heap.size, 0, none⟩) 1 1] 22)
  rw [hz] at h1
  have h2 := Tb.block_old h0 (.cells #[.slice (some ⟨W.heap.size, 0, none⟩) 1 1] 22)
  refine ⟨_, _, rfl, Nat.le_refl _, fun _ => ⟨_, 0, rfl, by simp, .inr ⟨_, _, _, h1, .inr rfl⟩, fun i l hl => ?_⟩⟩
  match i with
  | 0 =>
    simp at hl
    subst hl
    refine ⟨_, (blk1 h1).1, ⟨_, _, rfl, Nat.le_refl _, fun _ => ⟨_, 0, rfl, by simp; omega, fun j hj => ?_⟩⟩, fun x hx => by simp at hx; omega, fun a n c e _ => ?_⟩
    · match j, hj with
      | 0, _ => exact cell_of_row _ _ _ _ _ _ h2
    · cases e
      exact ⟨by simp; omega, .inr ⟨_, _, _, h2, .inl rfl⟩⟩
  | i + 1 => simp at hl
theorem kx : [[(120 : Int)]].map strOf = [sX] := rfl
theorem kw : winL [sX] 0 = [sX] := rfl
theorem kk : keE 0 [] 0 = 0 ∧ offL 0 [] 0 (strOf (Fr.sb sX)) = [((0 : Int), sX)] := ⟨rfl, rfl⟩
theorem kt : hasB [((0 : Int), sX)] 0 = true ∧ dropL [((0 : Int), sX)] 0 = [] := ⟨rfl, rfl⟩
theorem ka : ackN 0 [sX].length 1 = 1 := rfl
theorem ke : endE 0 1 = 0 ∧ endE 1 0 = 0 := by decide
/-- The packet that is told first. -/
theorem first_pkt {N0 B k c : Nat} {A : Option Addr} {s p : Int} {vs : List Value} {W : World} (h : PkR N0 B 25 s p 0 [sX] (.slice A k c) vs W) (hk : k = 1) (hv : k = vs.length) : ∃ g v, A = some ⟨g, 0, none⟩ ∧ BF N0 W v (Fr.sb sX) ∧ W.cell? ⟨g, 0, none⟩ = some (.int .i64 1) ∧ W.cell? ⟨g, 1, none⟩ = some (.int .i64 s) ∧ W.cell? ⟨g, 2, none⟩ = some (.int .i64 p) ∧ W.cell? ⟨g, 3, none⟩ = some (.int .i64 0) ∧ W.cell? ⟨g, 4, none⟩ = some v := by
  obtain ⟨v, rfl⟩ := List.length_eq_one_iff.1 (hv.symm.trans hk)
  obtain ⟨t, h1, h2⟩ := h.at_ 0 v rfl
  have e : t = sX := by simpa using h1.symm
  rw [e] at h2
  rcases h.own.2 with ⟨h3, _⟩ | ⟨g, cap, cur, h3, _, h4, _⟩
  · cases h3; simp at hk
  · cases h3
    have hc := fun (i : Nat) (u : Value) (hu : (pcs s p 0 [v])[i]? = some u) => h.own.cells (g := g) rfl i u hu
    have e0 := hc 0 _ rfl
    have e1 := hc 1 _ rfl
    have e2 := hc 2 _ rfl
    have e3 := hc 3 _ rfl
    have e4 := hc 4 _ rfl
    exact ⟨g, v, rfl, h2, by simpa [Addr.add] using e0, by simpa [Addr.add] using e1, by simpa [Addr.add] using e2, by simpa [Addr.add] using e3, by simpa [Addr.add] using e4⟩
set_option maxRecDepth 100000 in
set_option maxHeartbeats 8000000 in
theorem known_any (w : World) : Calls Tryz.prog 9 #[] w fun e w' => e = .returned (.bool true) ∧ Below w.heap.size w w' := by
  have H1 := Lib.hid (new_ok w 0 1 ke.1)
  have H2 := Lib.hid (fun W => new_ok W 1 0 ke.2)
  have kc := fun (w : World) (C : Array Value) (n c : Nat) => Lib.run_convert_bytes_const (P := Tryz.prog) w 22 5 C n c Tryz.underlying22 Tryz.underlying5
  go_enter Tryz.func9, Tryz.ntmps9
  go_upto_region 3 with (first
    | (go_at_call 32; (with_reducible refine H1.out.mono ?_); rintro e w1 ⟨b1, rfl, h1⟩; have HP1 := Lib.hid h1; clear h1)
    | (go_at_call 32; (with_reducible refine (H2.out _).mono ?_); rintro e w2 ⟨b2, rfl, h2⟩; have HT := Lib.hid (TW.new HP1.out h2); clear h2))
  have HS : Hid (Calls Tryz.prog 33 #[.pointer (some ⟨b1, 0, none⟩), .slice (some ⟨w2.heap.size + 1, 0, none⟩) 1 1] ((w2.alloc (.cells #[.int .u8 120] 5 (1, 2))).alloc (.cells #[.slice (some ⟨w2.heap.size, 0, none⟩) 1 1] 22)) fun e w' => e = .returned (.int .i64 1) ∧ ∃ sv', TW w w' b1 0 1 sv' 0 [sX] 0 (.slice none 0 0) [] b2 1 0 (.slice none 0 0) 0 [] 0 (.slice none 0 0) []) := by
    have hb : Below w2.heap.size w2 ((w2.alloc (.cells #[.int .u8 120] 5 (1, 2))).alloc (.cells #[.slice (some ⟨w2.heap.size, 0, none⟩) 1 1] 22)) := ((Below.refl _ _).alloc (Nat.le_refl _) _).alloc (by simp) _
    have ht := HT.out.below hb
    refine (say_any ht.x (by decide) (lit_x w.heap.size w2) (by decide)).mono ?_
    rintro e w3 ⟨he, sv', h3, h4, h5⟩
    exact ⟨he, sv', ht.left h3 h4 h5 (Nw.refl _ _)⟩
  go_upto_region 5 with (go_at_call 33; (with_reducible refine HS.out.mono ?_); rintro e w3 ⟨rfl, sv3, h3⟩; have HT3 := Lib.hid h3; have HTI := Lib.hid (tick_any h3.x); clear h3)
  go_upto_region 8 with (go_at_call 34; (with_reducible refine HTI.out.mono ?_); rintro e w4 ⟨A4, k4, c4, rfl, hk4, hb4, B4, vs4, _, hv4, hp4⟩; obtain rfl : k4 = 1 := hk4; have HT4 := Lib.hid (HT3.out.below hb4); obtain ⟨g4, v4, rfl, hbf, d0, d1, d2, d3, d4⟩ := first_pkt hp4 rfl hv4; have HBF := Lib.hid hbf; clear hb4 hv4 hp4 hbf)
  have HD : Hid (Calls Tryz.prog 35 #[.pointer (some ⟨b2, 0, none⟩), .agg #[.int .i64 1, .int .i64 0, .int .i64 1, .int .i64 0, v4]] w4 fun e w' => e = .returned (.tuple #[.agg #[.int .i64 2, .int .i64 1, .int .i64 0, .int .i64 0, .slice none 0 0], .bool true, .int .i64 0]) ∧ ∃ rv', TW w w' b1 0 1 sv3 0 [sX] 0 (.slice none 0 0) [] b2 1 0 (.slice none 0 0) 0 [] 0 rv' [((0 : Int), sX)]) := by
    obtain ⟨A, q, c, rfl⟩ : ∃ A q c, v4 = Value.slice A q c := by obtain ⟨A, c, e, _⟩ := HBF.out.1; exact ⟨A, _, c, e⟩
    have h1 := hear_data HT4.out.y (by decide) (by decide) HBF.out.1 HBF.out.2.1 (n := 0)
    rw [kk.1, kk.2] at h1
    refine h1.mono ?_
    rintro e w' ⟨he, rv', k1, k2, k3⟩
    exact ⟨he, rv', (HT4.out.swap.left k1 k2 (Nw.refl _ _) k3).swap⟩
  obtain ⟨A9, q9, c9, rfl⟩ : ∃ A q c, v4 = Value.slice A q c := by obtain ⟨A, c, e, _⟩ := HBF.out.1; exact ⟨A, _, c, e⟩
  go_upto_region 9 with (go_at_call 35; (with_reducible refine HD.out.mono ?_); rintro e w5 ⟨rfl, rv5, h5⟩; have HT5 := Lib.hid h5; clear h5)
  have E6 := Tb.block_new w5 (.cells #[.int .i64 2, .int .i64 1, .int .i64 0, .int .i64 0, .slice none 0 0] 25)
  have hb6 : Below w5.heap.size w5 (w5.alloc (.cells #[.int .i64 2, .int .i64 1, .int .i64 0, .int .i64 0, .slice none 0 0] 25)) := (Below.refl _ _).alloc (Nat.le_refl _) _
  have HT6 := Lib.hid (HT5.out.below hb6)
  obtain ⟨W6, hW6⟩ : ∃ W, W = w5.alloc (.cells #[.int .i64 2, .int .i64 1, .int .i64 0, .int .i64 0, .slice none 0 0] 25) := ⟨_, rfl⟩
  obtain ⟨g6, hg6⟩ : ∃ g, g = w5.heap.size := ⟨_, rfl⟩
  rw [← hW6] at E6 HT6 ⊢
  rw [← hg6] at E6 ⊢
  have HE6 := Lib.hid E6
  clear hW6 hg6 E6 hb6 HT5 d0 d1 d2 d3 d4 HD HBF HT4
  have HTK : Hid (Calls Tryz.prog 36 #[.pointer (some ⟨b2, 0, none⟩)] W6 fun e w' => e = .returned (.tuple #[.agg #[.int .i64 2, .int .i64 1, .int .i64 0, .int .i64 1, .slice none 0 0], .bool true]) ∧ (∃ rv', TW w w' b1 0 1 sv3 0 [sX] 0 (.slice none 0 0) [] b2 1 0 (.slice none 0 0) 0 [] 1 rv' []) ∧ w'.heap[g6]? = some (.cells #[.int .i64 2, .int .i64 1, .int .i64 0, .int .i64 0, .slice none 0 0] 25 (0, 0))) := by
    have h1 := take_yes HT6.out.y kt.1 (by decide)
    rw [kt.2] at h1
    refine h1.mono ?_
    rintro e w' ⟨he, rv', k1, k2, k3⟩
    exact ⟨he, ⟨rv', (HT6.out.swap.left k1 k2 (Nw.refl _ _) k3).swap⟩, (k2.block _ (Array.getElem?_eq_some_iff.1 HE6.out).1 (HT6.out.y.pi.other HE6.out (by decide) (by decide) (by decide))).trans HE6.out⟩
  go_upto_region 10 with (go_at_call 36; (with_reducible refine HTK.out.mono ?_); rintro e w7 ⟨rfl, ⟨rv7, h7⟩, k7⟩; have HT7 := Lib.hid h7; have HE7 := Lib.hid k7; clear h7 k7)
  have E8 := Tb.block_new w7 (.cells #[.int .i64 2, .int .i64 1, .int .i64 0, .int .i64 1, .slice none 0 0] 25)
  have hb8 : Below w7.heap.size w7 (w7.alloc (.cells #[.int .i64 2, .int .i64 1, .int .i64 0, .int .i64 1, .slice none 0 0] 25)) := (Below.refl _ _).alloc (Nat.le_refl _) _
  have HT8 := Lib.hid (HT7.out.below hb8)
  have HE8 := Lib.hid (Tb.block_kept HE7.out hb8)
  obtain ⟨W8, hW8⟩ : ∃ W, W = w7.alloc (.cells #[.int .i64 2, .int .i64 1, .int .i64 0, .int .i64 1, .slice none 0 0] 25) := ⟨_, rfl⟩
  obtain ⟨g8, hg8⟩ : ∃ g, g = w7.heap.size := ⟨_, rfl⟩
  rw [← hW8] at E8 HT8 HE8 ⊢
  rw [← hg8] at E8 ⊢
  have HG8 := Lib.hid E8
  clear hW8 hg8 hb8 HT7 HE7 HTK HT6 HE6
  obtain ⟨d0, d1, d2, d3, d4⟩ := blk5 E8
  clear E8
  have HHA : Hid (Calls Tryz.prog 35 #[.pointer (some ⟨b1, 0, none⟩), .agg #[.int .i64 2, .int .i64 1, .int .i64 0, .int .i64 1, .slice none 0 0]] W8 fun e w' => e = .returned (.tuple #[zP, .bool false, .int .i64 0]) ∧ TW w w' b1 0 1 sv3 1 [sX] 0 (.slice none 0 0) [] b2 1 0 (.slice none 0 0) 0 [] 1 rv7 [] ∧ w'.heap[g6]? = some (.cells #[.int .i64 2, .int .i64 1, .int .i64 0, .int .i64 0, .slice none 0 0] 25 (0, 0)) ∧ w'.heap[g8]? = some (.cells #[.int .i64 2, .int .i64 1, .int .i64 0, .int .i64 1, .slice none 0 0] 25 (0, 0))) := by
    have h1 := hear_ack (n := 1) (A := none) (q := 0) (c := 0) HT8.out.x (by decide)
    rw [ka] at h1
    refine h1.mono ?_
    rintro e w' ⟨he, k1, k2⟩
    exact ⟨he, HT8.out.left k1 k2 (Nw.refl _ _) (Nw.refl _ _), (k2.block _ (Array.getElem?_eq_some_iff.1 HE8.out).1 (HT8.out.x.pi.other HE8.out (by decide) (by decide) (by decide))).trans HE8.out, (k2.block _ (Array.getElem?_eq_some_iff.1 HG8.out).1 (HT8.out.x.pi.other HG8.out (by decide) (by decide) (by decide))).trans HG8.out⟩
  go_upto_region 11 with (go_at_call 35; (with_reducible refine HHA.out.mono ?_); rintro e w9 ⟨rfl, h9, k6, k8⟩; have HT9 := Lib.hid h9; have HK6 := Lib.hid k6; have HK8 := Lib.hid k8; clear h9 k6 k8)
  have hb9 : Below w9.heap.size w9 (w9.alloc (.cells #[.int .i64 0, .int .i64 0, .int .i64 0, .int .i64 0, .slice none 0 0] 25)) := (Below.refl _ _).alloc (Nat.le_refl _) _
  have HTA := Lib.hid (HT9.out.below hb9)
  obtain ⟨e0, e1, e2, e3, e4⟩ := blk5 (Tb.block_kept HK6.out hb9)
  obtain ⟨f0, f1, f2, f3, f4⟩ := blk5 (Tb.block_kept HK8.out hb9)
  clear d0 d1 d2 d3 d4 hb9
  generalize w9.alloc _ = W9 at HTA e0 e1 e2 e3 e4 f0 f1 f2 f3 f4 ⊢
  have HWA : Hid (Calls Tryz.prog 37 #[.pointer (some ⟨b1, 0, none⟩)] W9 fun e w' => e = .returned (.int .i64 0) ∧ W9 = w') := waits_any HTA.out.x.pi
  have HTN := Lib.hid (taken_any HTA.out.y.pi)
  go_wp2_with (first
    | (go_at_call 37; (with_reducible refine HWA.out.mono ?_); rintro e w10 ⟨rfl, rfl⟩)
    | (go_at_call 38; (with_reducible refine HTN.out.mono ?_); rintro e w10 ⟨rfl, rfl⟩))
  go_ret
  exact ⟨rfl, HTA.out.x.bel⟩
end Go.Proofs.YtganokcmcdkdgaaGreat.Pi

namespace Go.Proofs.YtganokcmcdkdgaaGreat.Pi
open Go.RowKit Wi Tb Wi.S

set_option maxRecDepth 100000 in
theorem to_any (w : World) (k f t n : Int) (A : Option Addr) (q c m : Nat) (hm : min q 100 = m) (hc : m ≤ c) : Calls Tryz.prog 4 #[.agg #[.int .i64 k, .int .i64 f, .int .i64 t, .int .i64 n, .slice A q c]] w fun e w' => e = .returned (.agg #[.int .i64 k, .int .i64 f, .int .i64 t, .int .i64 n, .slice A m c]) ∧ Below w.heap.size w w' := by
  have hs := Fr.slice_to A q c m hc
  have hi1 : (if (100 : Int) < (q : Int) then (100 : Int) else (q : Int)) = (m : Int) := by split <;> omega
  have hi2 : min (q : Int) 100 = (m : Int) := by omega
  have hc0 : Hid (∀ o : Obj, (((w.alloc (.cells #[.int .i64 k, .int .i64 f, .int .i64 t, .int .i64 n, .slice A q c] 24)).alloc o).drew.cell? ⟨w.heap.size, 0, none⟩ = some (.int .i64 k) ∧ ((w.alloc (.cells #[.int .i64 k, .int .i64 f, .int .i64 t, .int .i64 n, .slice A q c] 24)).alloc o).drew.cell? ⟨w.heap.size, 1, none⟩ = some (.int .i64 f)) ∧ (((w.alloc (.cells #[.int .i64 k, .int .i64 f, .int .i64 t, .int .i64 n, .slice A q c] 24)).alloc o).drew.cell? ⟨w.heap.size, 2, none⟩ = some (.int .i64 t) ∧ ((w.alloc (.cells #[.int .i64 k, .int .i64 f, .int .i64 t, .int .i64 n, .slice A q c] 24)).alloc o).drew.cell? ⟨w.heap.size, 3, none⟩ = some (.int .i64 n)) ∧ ((w.alloc (.cells #[.int .i64 k, .int .i64 f, .int .i64 t, .int .i64 n, .slice A q c] 24)).alloc o).drew.cell? ⟨w.heap.size, 4, none⟩ = some (.slice A q c)) := fun o => by
    obtain ⟨r0, r1, r2, r3, r4⟩ := blk5 (Tb.block_old (Tb.block_new w (.cells #[.int .i64 k, .int .i64 f, .int .i64 t, .int .i64 n, .slice A q c] 24)) o)
    exact ⟨⟨r0, r1⟩, ⟨r2, r3⟩, r4⟩
  clear hm hc
  go_enter Tryz.func4, Tryz.ntmps4
  go_upto_region 1 with fail
  go_region_held3 (fun w' => (w'.cell? ⟨w.heap.size, 0, none⟩ = some (.int .i64 k) ∧ w'.cell? ⟨w.heap.size, 1, none⟩ = some (.int .i64 f)) ∧ (w'.cell? ⟨w.heap.size, 2, none⟩ = some (.int .i64 t) ∧ w'.cell? ⟨w.heap.size, 3, none⟩ = some (.int .i64 n)) ∧ w'.cell? ⟨w.heap.size, 4, none⟩ = some (.slice A q c)) (exact hc0.out _) (fail)
  all_goals
    go_wp2
    have h9 := Tb.block_new (w.alloc (.cells #[.int .i64 k, .int .i64 f, .int .i64 t, .int .i64 n, .slice A q c] 24)) (.cells #[.int .i64 k, .int .i64 f, .int .i64 t, .int .i64 n, .slice A m c] 25)
    rw [show (w.alloc (.cells #[.int .i64 k, .int .i64 f, .int .i64 t, .int .i64 n, .slice A q c] 24)).heap.size = w.heap.size + 1 by simp] at h9
    obtain ⟨r0, r1, r2, r3, r4⟩ := blk5 (Tb.block_kept h9 (Below.refl _ _).drew)
    refine bodyPost_ret (v := .agg #[.int .i64 k, .int .i64 f, .int .i64 t, .int .i64 n, .slice A m c]) (by simp [results, Tryz.results4, go_sem, r0, r1, r2, r3, r4]) rfl ⟨rfl, ?_⟩
    exact (((Below.refl _ _).alloc (Nat.le_refl _) _).alloc (by simp) _).drew
set_option maxRecDepth 100000 in
theorem of_any (w : World) (k f t n : Int) (A : Option Addr) (q c : Nat) : Calls Tryz.prog 5 #[.agg #[.int .i64 k, .int .i64 f, .int .i64 t, .int .i64 n, .slice A q c]] w fun e w' => e = .returned (.agg #[.int .i64 k, .int .i64 f, .int .i64 t, .int .i64 n, .slice A q c]) ∧ Below w.heap.size w w' := by
  go_enter Tryz.func5, Tryz.ntmps5
  have h0 := Tb.block_new w (.cells #[.int .i64 k, .int .i64 f, .int .i64 t, .int .i64 n, .slice A q c] 25)
  have h1 := Tb.block_old h0 (.cells #[.int .i64 0, .int .i64 0, .int .i64 0, .int .i64 0, .slice none 0 0] 24)
  obtain ⟨c0, c1, c2, c3, c4⟩ := blk5 h1
  clear h0 h1
  go_wp2
  have h9 := Tb.block_new (w.alloc (.cells #[.int .i64 k, .int .i64 f, .int .i64 t, .int .i64 n, .slice A q c] 25)) (.cells #[.int .i64 k, .int .i64 f, .int .i64 t, .int .i64 n, .slice A q c] 24)
  rw [show (w.alloc (.cells #[.int .i64 k, .int .i64 f, .int .i64 t, .int .i64 n, .slice A q c] 25)).heap.size = w.heap.size + 1 by simp] at h9
  obtain ⟨r0, r1, r2, r3, r4⟩ := blk5 h9
  refine bodyPost_ret (v := .agg #[.int .i64 k, .int .i64 f, .int .i64 t, .int .i64 n, .slice A q c]) (by simp [results, Tryz.results5, go_sem, r0, r1, r2, r3, r4]) rfl ⟨rfl, ?_⟩
  exact ((Below.refl _ _).alloc (Nat.le_refl _) _).alloc (by simp) _
end Go.Proofs.YtganokcmcdkdgaaGreat.Pi
