/-
  The contracts of a pipe's changes. Conditions: at most five thousand things said; numbers of 64 bits.
-/
import Derived.Test.YtganokcmcdkdgaaGreatUPipe
import Derived.Test.YtganokcmcdkdgaaGreatUTail
namespace Go.Proofs.YtganokcmcdkdgaaGreat.Pi
open Go.RowKit Wi Tb Wi.S

/-- A pipe that is new since w0. -/
structure PX (w0 w : World) (b : Nat) (s p : Int) (sv : Value) (a : Nat) (xs : List ByteArray) (nx : Int) (rv : Value) (l : List Rw) : Prop where
  pi : PiR w b s p sv a xs nx rv l
  bel : Below w0.heap.size w0 w
  new : ∀ i, OwnP b sv rv i → w0.heap.size ≤ i
section
variable {w0 w w' : World} {b a : Nat} {s p nx : Int} {sv rv : Value} {xs : List ByteArray} {l : List Rw}
theorem PX.step {s' p' nx' : Int} {a' : Nat} {sv' rv' : Value} {xs' : List ByteArray} {l' : List Rw} (h : PX w0 w b s p sv a xs nx rv l) (k : PiR w' b s' p' sv' a' xs' nx' rv' l') (hk : Kept (OwnP b sv rv) w w') (n1 : Nw w sv sv') (n2 : Nw w rv rv') : PX w0 w' b s' p' sv' a' xs' nx' rv' l' :=
  ⟨k, ⟨hk.os.trans h.bel.os, hk.tape.trans h.bel.tape, hk.output.trans h.bel.output, Nat.le_trans h.bel.size hk.size, fun i hi => (hk.block i (Nat.lt_of_lt_of_le hi h.bel.size) (fun e => by have := h.new i e; omega)).trans (h.bel.block i hi)⟩, fun i hi => by
    rcases hi with h1 | h1 | h1
    · exact h.new i (.inl h1)
    · rcases n1 i h1 with h2 | h2
      · exact h.new i (.inr (.inl h2))
      · exact Nat.le_trans h.bel.size h2
    · rcases n2 i h1 with h2 | h2
      · exact h.new i (.inr (.inr h2))
      · exact Nat.le_trans h.bel.size h2⟩
theorem PX.below (h : PX w0 w b s p sv a xs nx rv l) (hb : Below w.heap.size w w') : PX w0 w' b s p sv a xs nx rv l := h.step (h.pi.below hb) (Kept.of_below hb) (Nw.refl _ _) (Nw.refl _ _)
theorem PX.fix (h : PX w0 w b s p sv a xs nx rv l) : ∀ g, Fix w0.heap.size w g → ¬ OwnP b sv rv g := h.pi.fix h.new
theorem ownO {i : Nat} (h : Wi.Own b sv i) : OwnP b sv rv i := h.elim .inl (fun e => .inr (.inl e))
theorem ownI {i : Nat} (h : Wi.Own b rv i) : OwnP b sv rv i := h.elim .inl (fun e => .inr (.inr e))
set_option maxRecDepth 100000 in
theorem ack_any (h : PiR w b s p sv a xs nx rv l) : Calls Tryz.prog 67 #[.pointer (some ⟨b, 0, none⟩)] w fun e w' => e = .returned (.agg #[.int .i64 2, .int .i64 s, .int .i64 p, .int .i64 nx, .slice none 0 0]) ∧ Below w.heap.size w w' := by
  have hb0 : Below w.heap.size w (w.alloc (.cells #[.int .i64 0, .int .i64 0, .int .i64 0, .int .i64 0, .slice none 0 0] 25)) := (Below.refl _ w).alloc (Nat.le_refl _) _
  have HT := Lib.hid (taken_any (h.below hb0))
  have HP := Lib.hid (packet_any (h.below hb0) 2 nx)
  have E := Tb.block_new w (.cells #[.int .i64 0, .int .i64 0, .int .i64 0, .int .i64 0, .slice none 0 0] 25)
  have HE := Lib.hid E
  have HB0 := Lib.hid hb0
  clear h E hb0
  go_enter Tryz.func67, Tryz.ntmps67
  go_wp2_with (first
    | (go_at_call 65; (with_reducible refine HP.out.mono ?_); rintro e w2 ⟨rfl, hb⟩; have h2 := Tb.block_kept HE.out hb; obtain ⟨r0, r1, r2, r3, r4⟩ := blk5 h2; have fz := fro5 h2; have HB := Lib.hid (HB0.out.trans (hb.mono HB0.out.size)); clear hb h2)
    | (go_at_call 38; (with_reducible refine HT.out.mono ?_); rintro e w1 ⟨rfl, rfl⟩))
  refine bodyPost_ret (v := .agg #[.int .i64 2, .int .i64 s, .int .i64 p, .int .i64 nx, .slice none 0 0]) (by simp [results, Tryz.results67, go_sem, r0, r1, r2, r3, r4]) rfl ⟨rfl, ?_⟩
  exact ((((HB.out.setCell (Nat.le_refl _) _).setCell (Nat.le_refl _) _).setCell (Nat.le_refl _) _).setCell (Nat.le_refl _) _).setCell (Nat.le_refl _) _
/-! ### What is heard -/
def keE (nx : Int) (l : List Rw) (n : Int) : Int := if offE nx l n = 7 then 7 else 0
theorem offE_all (nx : Int) (l : List Rw) (n : Int) : offE nx l n = 8 ∨ offE nx l n = 7 ∨ offE nx l n = 6 ∨ offE nx l n = 0 := by
  unfold offE
  split
  · exact .inl rfl
  · split
    · exact .inr (.inl rfl)
    · split
      · exact .inr (.inr (.inl rfl))
      · exact .inr (.inr (.inr rfl))
set_option maxRecDepth 100000 in
theorem keep_any {u : Value} {lb : List Int} (h : PiR w b s p sv a xs nx rv l) (n : Int) (hn : n ≤ 9223372036854775807) (hu : Fr.BAt w u lb) (hb : Fr.bok lb) : Calls Tryz.prog 66 #[.pointer (some ⟨b, 4, none⟩), .int .i64 n, u] w fun e w' => e = .returned (.int .i64 (keE nx l n)) ∧ ∃ rv', PiR w' b s p sv a xs nx rv' (offL nx l n (strOf lb)) ∧ Kept (OwnP b sv rv) w w' ∧ Nw w rv rv' := by
  have hcv : ∀ p : InW w, (convert 22 9 u).run Tryz.prog p.val = .ok (.string (strOf lb)) p.val := fun p => conv_any (hu.kept p.bel) hb
  have HO : Hid (∀ W, Below w.heap.size w W → Calls Tryz.prog 92 #[.pointer (some ⟨b, 4, none⟩), .int .i64 n, .string (strOf lb)] W fun e w' => e = .returned (.int .i64 (offE nx l n)) ∧ ∃ rv', PiR w' b s p sv a xs nx rv' (offL nx l n (strOf lb)) ∧ Kept (OwnP b sv rv) w w' ∧ Nw w rv rv') := fun W hW => by
    have h' := h.below hW
    refine (offer_any h'.i n hn (strOf lb)).mono ?_
    rintro e w1 ⟨h1, rv', h2, h3, h4⟩
    refine ⟨h1, rv', h'.ofI h2 h3 h4, (Kept.of_below hW).trans' h3 (fun i _ hi => ownI hi), fun i hi => ?_⟩
    rcases h4 i hi with h5 | h5
    · exact .inl h5
    · exact .inr (Nat.le_trans hW.size h5)
  obtain ⟨t, ht⟩ : ∃ t, t = strOf lb := ⟨_, rfl⟩
  rw [← ht] at hcv HO ⊢
  obtain ⟨z, hz⟩ : ∃ z, z = offE nx l n := ⟨_, rfl⟩
  have hz4 := offE_all nx l n
  unfold keE
  rw [← hz] at HO hz4 ⊢
  obtain ⟨A, q, c, rfl⟩ : ∃ A q c, u = Value.slice A q c := by obtain ⟨A, c, e, _⟩ := hu; exact ⟨A, _, c, e⟩
  clear h hu hz ht
  go_enter Tryz.func66, Tryz.ntmps66
  go_upto_region 1 with fail
  refine wp_region_quiet_tail (C := fun w' => ∃ p : InW w, w' = p.val) 6 (by kernel_rfl) (by kernel_rfl) (by kernel_rfl) ⟨⟨w.drew, (Below.refl _ _).drew⟩, rfl⟩ ?_
  simp only [List.take_succ_cons, List.take_zero, List.drop_succ_cons, List.drop_zero]
  repeat (go_big_quiet_step (fail))
  refine wpQuiet_nil ?_
  rintro _ ⟨q3, rfl⟩
  obtain ⟨wq, hbq⟩ := q3
  try dsimp only
  have HOQ := Lib.hid (HO.out wq hbq)
  clear hcv
  rcases hz4 with rfl | rfl | rfl | rfl
  all_goals
    go_wp2_with (go_at_call 92; (with_reducible refine HOQ.out.mono ?_); rintro e w1 ⟨rfl, hp⟩; have HP := Lib.hid hp; clear hp)
    go_ret
    exact ⟨rfl, HP.out⟩
/-! ### What is said -/
theorem map_take_succ {ls : List (List Int)} {i : Nat} {lb : List Int} (h : ls[i]? = some lb) : (ls.take (i + 1)).map strOf = (ls.take i).map strOf ++ [strOf lb] := by
  have hi : i < ls.length := (List.getElem?_eq_some_iff.1 h).1
  rw [List.take_succ_eq_append_getElem hi, List.map_append]
  have : ls[i] = lb := (List.getElem?_eq_some_iff.1 h).2
  rw [this]
  rfl
theorem at_one (w : World) (t : ByteArray) : At (w.alloc (.cells #[.string t] 9)) (.slice (some ⟨w.heap.size, 0, none⟩) 1 1) [t] := by
  refine ⟨_, _, rfl, Nat.le_refl _, fun _ => ⟨_, 0, rfl, by simp, fun i x hi => ?_⟩⟩
  have hb := Tb.block_new w (.cells #[.string t] 9)
  match i with
  | 0 => simp at hi; subst hi; exact cell_of_row _ _ _ _ _ _ hb
  | i + 1 => simp at hi
theorem NwT {a b : World} {v1 v2 v3 : Value} (h : Nw a v1 v2) (k : Nw b v2 v3) (hs : a.heap.size ≤ b.heap.size) : Nw a v1 v3 := fun i hi => by
  rcases k i hi with h1 | h1
  · exact h i h1
  · exact .inr (Nat.le_trans hs h1)
theorem keptP {a c d : World} {sv sv' : Value} (h : Kept (OwnP b sv rv) a c) (k : Kept (OwnP b sv' rv) c d) (n : Nw a sv sv') : Kept (OwnP b sv rv) a d := h.trans' k (fun i hi e => by
  rcases e with e | e | e
  · exact .inl e
  · rcases n i e with h1 | h1
    · exact .inr (.inl h1)
    · omega
  · exact .inr (.inr e))
/-- A place in slices of bytes. -/
theorem bbf_at {N0 : Nat} {A : Option Addr} {n c i : Nat} {ls : List (List Int)} (h : BBF N0 w (.slice A n c) ls) (hi : i < n) : ∃ g o u lb, A = some ⟨g, o, none⟩ ∧ ls[i]? = some lb ∧ w.cell? ⟨g, o + i, none⟩ = some u ∧ BF N0 w u lb := by
  obtain ⟨A', cap, e, _, h3⟩ := h
  cases e
  obtain ⟨g, o, h4, _, _, h5⟩ := h3 (by omega)
  have h6 : ls[i]? = some ls[i] := List.getElem?_eq_getElem hi
  obtain ⟨u, h7, h8⟩ := h5 i _ h6
  exact ⟨g, o, u, _, h4, h6, h7, h8⟩
set_option maxRecDepth 100000 in
set_option maxHeartbeats 4000000 in
theorem add_any {A : Option Addr} {n c : Nat} {ls : List (List Int)} (h : PX w0 w b s p sv a xs nx rv l) (hv : BBF w0.heap.size w (.slice A n c) ls) (hl : xs.length + n ≤ 5000) :
    Calls Tryz.prog 61 #[.pointer (some ⟨b, 2, none⟩), .slice A n c] w fun e w' => e = .returned (.tuple #[]) ∧ ∃ sv', PX w0 w' b s p sv' a (xs ++ ls.map strOf) nx rv l ∧ Kept (OwnP b sv rv) w w' ∧ Nw w sv sv' := by
  have hn : n = ls.length := by obtain ⟨A', cap, e, _⟩ := hv; cases e; rfl
  have H := Lib.hid h
  have HV := Lib.hid hv
  have HL : Hid (xs.length + n ≤ 5000) := hl
  have HN := Lib.hid hn
  clear h hv hl hn
  go_enter Tryz.func61, Tryz.ntmps61
  go_wp2
  go_loopg [8] n (fun (gh : Nat) s8 wx => ∃ (i : Nat) (sv' : Value), gh = n - i ∧ i ≤ n ∧ s8 = .int .i64 (i : Int) ∧ Hid (PX w0 wx b s p sv' a (xs ++ (ls.take i).map strOf) nx rv l) ∧ Hid (Kept (OwnP b sv rv) w wx) ∧ Hid (Nw w sv sv'))
  case atStart => exact ⟨0, sv, rfl, Nat.zero_le _, rfl, by show PX _ _ _ _ _ _ _ _ _ _ _; simpa using H.out, Kept.refl _ _, Nw.refl _ _⟩
  case round =>
    obtain ⟨i, sv', rfl, hi, rfl, HP, HK, HW⟩ := hrel
    have hn5 : n ≤ 5000 := by have := HL.out; omega
    by_cases hlt : i < n
    · have t1 : (i : Int) < (n : Int) := by omega
      have t2 : (0 : Int) ≤ (i : Int) := by omega
      obtain ⟨g, o, u, lb, rfl, hlb, hcu, hbu⟩ := bbf_at (HV.out.kept HK.out H.out.fix) hlt
      obtain ⟨Au, qu, cu, rfl⟩ : ∃ A q c, u = Value.slice A q c := by obtain ⟨A, c, e, _⟩ := hbu.1; exact ⟨A, _, c, e⟩
      have HT := Lib.hid (map_take_succ hlb)
      have HBU := Lib.hid hbu
      have hcv : ∀ W, Below wr.heap.size wr W → (convert 22 9 (.slice Au qu cu)).run Tryz.prog W = .ok (.string (strOf lb)) W := fun W hW => conv_any (hbu.1.kept hW) hbu.2.1
      have hcu2 : ∀ W, Fr.BAt W (.slice Au qu cu) lb → (convert 22 9 (.slice Au qu cu)).run Tryz.prog W = .ok (.string (strOf lb)) W := fun W hW => conv_any hW hbu.2.1
      obtain ⟨t, ht⟩ : ∃ t, t = strOf lb := ⟨_, rfl⟩
      rw [← ht] at hcv hcu2 HT
      have HPU : Hid (∀ W, Below wr.heap.size wr W → Calls Tryz.prog 87 #[.pointer (some ⟨b, 2, none⟩), .slice (some ⟨W.heap.size, 0, none⟩) 1 1] (W.alloc (.cells #[.string t] 9)) fun e w' => e = .returned (.int .i64 ((xs.length + i + 1 : Nat) : Int)) ∧ ∃ sv2, PX w0 w' b s p sv2 a (xs ++ (ls.take (i + 1)).map strOf) nx rv l ∧ Kept (OwnP b sv rv) w w' ∧ Nw w sv sv2 ∧ (convert 22 9 (.slice Au qu cu)).run Tryz.prog w' = .ok (.string t) w') := fun W hW => by
        have hb1 : Below wr.heap.size wr (W.alloc (.cells #[.string t] 9)) := hW.alloc hW.size _
        have hp1 := HP.out.below hb1
        have hlen : (xs ++ (ls.take i).map strOf).length = xs.length + i := by rw [List.length_append, List.length_map, List.length_take, ← HN.out]; omega
        have hpu := push_any (m := [t]) hp1.pi.o (at_one W t) (by rw [hlen]; have := HL.out; simp; omega)
        rw [hlen] at hpu
        refine hpu.mono ?_
        rintro e w2 ⟨he, sv2, o2, k2, n2⟩
        have k3 : Kept (OwnP b sv' rv) (W.alloc (.cells #[.string t] 9)) w2 := k2.mono (fun i _ hi => ownO hi)
        have hst := hp1.step (hp1.pi.ofO o2 k2 n2) k3 n2 (Nw.refl _ _)
        rw [HT.out, ← List.append_assoc]
        refine ⟨by simpa using he, sv2, hst, keptP (keptP HK.out (Kept.of_below hb1) HW.out) k3 (NwT HW.out (Nw.refl _ _) HK.out.size), NwT HW.out n2 (Nat.le_trans HK.out.size hb1.size), hcu2 w2 ((HBU.out.below hb1).kept k3 hp1.fix).1⟩
      clear hcu2 hbu ht hlb HP HK HW
      go_upto_region 3 with fail
      have hc0 := hcv wr.drew (Below.refl _ _).drew
      have hc1 := hcv (wr.alloc (.cells #[.string t] 9)).drew (((Below.refl _ wr).alloc (Nat.le_refl _) _).drew)
      have HA : Hid (Calls Tryz.prog 87 #[.pointer (some ⟨b, 2, none⟩), .slice (some ⟨wr.heap.size, 0, none⟩) 1 1] (wr.alloc (.cells #[.string t] 9)).drew fun e w' => e = .returned (.int .i64 ((xs.length + i + 1 : Nat) : Int)) ∧ ∃ sv2, PX w0 w' b s p sv2 a (xs ++ (ls.take (i + 1)).map strOf) nx rv l ∧ Kept (OwnP b sv rv) w w' ∧ Nw w sv sv2 ∧ (convert 22 9 (.slice Au qu cu)).run Tryz.prog w' = .ok (.string t) w') := HPU.out wr.drew (Below.refl _ _).drew
      clear hcv hcu HPU
      go_region_held3 (fun w' => (convert 22 9 (.slice Au qu cu)).run Tryz.prog w' = .ok (.string t) w') (first | exact hc0 | exact hc1 | exact h4)
        (first
          | (go_at_call 87; (with_reducible refine HA.out.mono ?_); rintro e w2 ⟨rfl, sv2, h1, h2, h3, h4⟩; have H1 := Lib.hid h1; have H2 := Lib.hid h2; have H3 := Lib.hid h3; clear h1 h2 h3))
      all_goals
        go_wp2
        go_roundg (n - (i + 1))
        case measure => omega
        case rel => exact ⟨i + 1, sv2, rfl, hlt, by go_num, H1, H2, H3⟩
    · obtain rfl : i = n := by omega
      have t1 : ¬ (i : Int) < (i : Int) := by omega
      have HF : Hid (PX w0 wr b s p sv' a (xs ++ ls.map strOf) nx rv l) := by
        have := HP.out
        rw [HN.out, List.take_length] at this
        exact this
      clear HP
      go_wp2
      go_end0
      exact ⟨rfl, sv', HF.out, HK.out, HW.out⟩
end
end Go.Proofs.YtganokcmcdkdgaaGreat.Pi
