/-
  The reference's Append beside the store's. Conditions: at most 997 files, 100000 bytes; a piece of at most a thousand.
-/
import Derived.Test.YtffeinbbgfogoaaSRln
namespace Go.Proofs.Ytffeinbbgfogoaa.Sr
open Go.RowKit Fr

/-- What a change of the reference leaves: these cells, files alike to these. -/
def RTo (w w' : World) (q : Nat) (x : RS) (s' : S) (Lc : List Fi) : Prop := ∃ x', Rm w w' q x x' ∧ Alike Lc x'.D ∧ Rl s' x'
theorem RTo.same {w w' : World} {q : Nat} {x : RS} {s : S} (h : RfR w q x) (hr : Rl s x) (hb : Below w.heap.size w w') : RTo w w' q x s x.D := ⟨x, Rm.of_below h hb, Alike.refl _, hr⟩
theorem put_same {D : List Fi} {k : ByteArray} (v : Value) (h : hasL D k = true) : Alike (putL D k (v, bytL D k)) D := fun j => by
  rw [has_put, byt_put]
  constructor
  · split
    · rename_i e; rw [← e]; exact h
    · rfl
  · split
    · rename_i e; rw [e]
    · rfl
theorem rdy_one (d : Bool) (k : ByteArray) : rdy d [k] = if d = true then 14 else if okN k = true then 0 else 3 := by
  unfold rdy; simp
theorem used_call {w : World} {q : Nat} {x : RS} {s : S} (h : RfR w q x) (hr : Rl s x) (hu : usedL x.D ≤ 100000) : ∀ p : InW w, Calls Try.prog 51 #[.pointer (some ⟨q, 0, none⟩)] p.val fun e w'' => e = .returned (.int .i64 s.used) ∧ ∃ p' : InW w, w'' = p'.val := fun p => by
  refine calls_in ((rused_any (h.below p.bel) (by omega)).mono ?_)
  rintro e w' ⟨rfl, rfl⟩
  exact ⟨by rw [hr.used], Below.refl _ _⟩
set_option maxRecDepth 100000 in
set_option maxHeartbeats 1000000 in
theorem rapp_early {w : World} {q : Nat} {x : RS} {s : S} (k : ByteArray) (A : Option Addr) (n c : Nat) (h : RfR w q x) (hr : Rl s x) (hb : rdy s.d [k] ≠ 0) :
    Calls Try.prog 12 #[.pointer (some ⟨q, 0, none⟩), .string k, .slice A n c] w fun e w' => e = .returned (.int .i64 (rdy s.d [k])) ∧ RTo w w' q x s x.D := by
  have FIN := Lib.hid (RTo.same h hr (Below.refl _ _))
  have HRT := Lib.hid (right_any w k)
  have c3 := (rblk_cells h.blk).1.2.2.2
  rw [hr.dn] at c3
  rw [rdy_one] at hb ⊢
  clear h hr
  obtain ⟨d, hd⟩ : ∃ d, d = s.d := ⟨_, rfl⟩
  rw [← hd] at c3 hb ⊢
  clear hd
  cases d
  · obtain ⟨r, hrr⟩ : ∃ r, r = okN k := ⟨_, rfl⟩
    rw [← hrr] at hb HRT ⊢
    clear hrr
    cases r
    · go_enter Try.func12, Try.ntmps12
      go_wp2_with (go_at_call 50; (with_reducible refine HRT.out.mono ?_); rintro e w1 ⟨rfl, rfl⟩)
      go_ret
      exact ⟨rfl, FIN.out⟩
    · exact absurd rfl hb
  · go_enter Try.func12, Try.ntmps12
    go_wp2
    go_ret
    exact ⟨rfl, FIN.out⟩
set_option maxRecDepth 100000 in
set_option maxHeartbeats 1000000 in
theorem rapp_full {w : World} {q : Nat} {x : RS} {s : S} (k : ByteArray) (A : Option Addr) (n c : Nat) (h : RfR w q x) (hr : Rl s x) (hd : s.d = false) (hk : okN k = true) (hu : usedL x.D ≤ 100000) (hn : n ≤ 1000) (hf : s.room < s.used + n) (hrm : 0 ≤ s.room ∧ s.room ≤ 1048576) :
    Calls Try.prog 12 #[.pointer (some ⟨q, 0, none⟩), .string k, .slice A n c] w fun e w' => e = .returned (.int .i64 7) ∧ RTo w w' q x s x.D := by
  have HR := Lib.hid h
  have HL := Lib.hid hr
  have HRT := Lib.hid (right_any w k)
  rw [hk] at HRT
  have c3 := (rblk_cells h.blk).1.2.2.2
  rw [hr.dn, hd] at c3
  have hus := used_call h hr hu
  have hub : 0 ≤ s.used ∧ s.used ≤ 100000 := by rw [hr.used]; omega
  have c1 : ∀ p : InW w, p.val.cell? ⟨q, 1, none⟩ = some (.int .i64 s.room) := fun p => p.cell (by rw [← hr.rm]; exact (rblk_cells h.blk).1.2.1)
  obtain ⟨u, huu⟩ : ∃ u, u = s.used := ⟨_, rfl⟩
  obtain ⟨o, hoo⟩ : ∃ o, o = s.room := ⟨_, rfl⟩
  rw [← huu] at hus hub hf
  rw [← hoo] at c1 hf hrm
  obtain ⟨u0, u1⟩ := hub
  obtain ⟨o0, o1⟩ := hrm
  have e0 : (0 : Int) ≤ (n : Int) := by omega
  have e1 : (n : Int) ≤ 1000 := by omega
  clear h hr hd hk hu huu hoo hn
  go_enter Try.func12, Try.ntmps12
  go_upto_region 5 with (go_at_call 50; (with_reducible refine HRT.out.mono ?_); rintro e w1 ⟨rfl, rfl⟩)
  refine wp_region_below (W := w) (by kernel_rfl) (by kernel_rfl) (Below.refl _ _) ?_
  repeat (go_big_quiet_step ((first | (go_at_call 51; with_reducible exact hus _))))
  refine wpQuiet_nil ?_
  rintro _ ⟨q0, rfl⟩
  obtain ⟨wq, hbq⟩ := q0
  try dsimp only
  have HBQ := Lib.hid hbq
  clear c1 c3 hbq hus
  go_wp2
  go_ret
  exact ⟨rfl, RTo.same HR.out HL.out HBQ.out⟩
/-- What stands behind the questions. -/
def AppR (w w' : World) (q : Nat) (x : RS) (s : S) (k : ByteArray) (n : Nat) (bs : List Int) : Prop := ∃ x', Rm w w' q x x' ∧ Rl { useS s n with used := (usedL x'.D : Int) } x' ∧ Alike (if 0 < useN s n ∨ n = 0 then putL x.D k (dv, bytL x.D k ++ bs.take (useN s n).toNat) else x.D) x'.D
theorem grL_app {D : List Fi} {k : ByteArray} {bs : List Int} {s : S} {n : Nat} (h : 0 < n) (hl : s.a = true → 0 ≤ s.n ∧ s.n ≤ 9223372036854775807) : grL D k bs (useN s n).toNat = if 0 < useN s n ∨ n = 0 then putL D k (dv, bytL D k ++ bs.take (useN s n).toNat) else D := by
  have := useN_le s n hl
  unfold grL
  by_cases h1 : 0 < useN s n
  · rw [if_neg (by omega), if_pos (.inl h1)]
  · rw [if_pos (by omega), if_neg (by omega)]
set_option maxRecDepth 100000 in
set_option maxHeartbeats 1000000 in
theorem rapp_on {w : World} {q : Nat} {x : RS} {s : S} (k : ByteArray) {A : Option Addr} {n c : Nat} {bs : List Int} (h : RfR w q x) (hr : Rl s x) (hd : s.d = false) (hk : okN k = true) (hu : usedL x.D ≤ 100000) (hn : n ≤ 1000) (hf : ¬ s.room < s.used + n) (hrm : 0 ≤ s.room ∧ s.room ≤ 1048576) (hfw : x.D.length + 3 ≤ 1000) (hbs : bs.length = n) (hv : ∀ w', Off (fun i => i = q) w w' → BAt w' (.slice A n c) bs) :
    Calls Try.prog 12 #[.pointer (some ⟨q, 0, none⟩), .string k, .slice A n c] w fun e w' => e = .returned (.int .i64 (dwn (useS s n))) ∧ AppR w w' q x s k n bs := by
  have HR := Lib.hid h
  have HL := Lib.hid hr
  have HV := Lib.hid hv
  have HD := Lib.hid hd
  have HRT := Lib.hid (right_any w k)
  rw [hk] at HRT
  have c3 := (rblk_cells h.blk).1.2.2.2
  rw [hr.dn, hd] at c3
  have hus := used_call h hr hu
  have hub : 0 ≤ s.used ∧ s.used ≤ 100000 := by rw [hr.used]; omega
  have c1 : ∀ p : InW w, p.val.cell? ⟨q, 1, none⟩ = some (.int .i64 s.room) := fun p => p.cell (by rw [← hr.rm]; exact (rblk_cells h.blk).1.2.1)
  have hbl : (bytL x.D k).length ≤ 100000 := Nat.le_trans (byt_used x.D k) hu
  have HRD : Hid (∀ W, Below w.heap.size w W → Calls Try.prog 52 #[.pointer (some ⟨q, 0, none⟩), .string k] W fun e w' => e = .returned (.tuple #[valL x.D k, .bool (hasL x.D k)]) ∧ Below W.heap.size W w') := fun W hW => rread_any k (h.below hW)
  have hvo : (valL x.D k).oneCell' = true := bat_slice (val_bat k h).1
  obtain ⟨u, huu⟩ : ∃ u, u = s.used := ⟨_, rfl⟩
  obtain ⟨o, hoo⟩ : ∃ o, o = s.room := ⟨_, rfl⟩
  rw [← huu] at hus hub hf
  rw [← hoo] at c1 hf hrm
  obtain ⟨u0, u1⟩ := hub
  obtain ⟨o0, o1⟩ := hrm
  have e0 : (0 : Int) ≤ (n : Int) := by omega
  have e1 : (n : Int) ≤ 1000 := by omega
  have HSTEP : Hid (∀ W x1, Rm w W q x x1 → Rl s x1 → x1.D.length + 2 ≤ 1000 → (bytL x1.D k).length ≤ 100000 → Calls Try.prog 54 #[.pointer (some ⟨q, 0, none⟩), .string k, .slice A n c] W fun e w' => e = .returned (.int .i64 (dwn (useS s n))) ∧
      ∃ x', Rm w w' q x x' ∧ Alike (grL x1.D k bs (useN s n).toNat) x'.D ∧ Rl { useS s n with used := (usedL x'.D : Int) } x') := fun W x1 hm hl hn1 hb1 => by
    refine (rgrow_any k hm.st hl HD.out hn1 hbs (by omega) (fun w' ho => HV.out w' (hm.off.trans ho (fun _ e => .inl e)))).mono ?_
    rintro e w' ⟨rfl, x', h1, h2, h3⟩
    exact ⟨rfl, x', hm.trans h1, h2, h3⟩
  have HLEFT := Lib.hid hr.left
  obtain ⟨v0, hv0⟩ : ∃ v0, v0 = valL x.D k := ⟨_, rfl⟩
  obtain ⟨hh, hhh⟩ : ∃ hh, hh = hasL x.D k := ⟨_, rfl⟩
  obtain ⟨dw, hdw⟩ : ∃ dw, dw = dwn (useS s n) := ⟨_, rfl⟩
  rw [← hv0] at HRD hvo
  rw [← hhh] at HRD
  rw [← hdw] at HSTEP ⊢
  have HHH := Lib.hid hhh
  have HBL := Lib.hid hbl
  have hz3 : x.D.length + 2 ≤ 1000 := by omega
  clear h hr hd hk hu huu hoo hv hbl hhh hv0 hdw
  go_enter Try.func12, Try.ntmps12
  go_upto_region 5 with (go_at_call 50; (with_reducible refine HRT.out.mono ?_); rintro e w1 ⟨rfl, rfl⟩)
  refine wp_region_below (W := w) (by kernel_rfl) (by kernel_rfl) (Below.refl _ _) ?_
  repeat (go_big_quiet_step ((first | (go_at_call 51; with_reducible exact hus _))))
  refine wpQuiet_nil ?_
  rintro _ ⟨q0, rfl⟩
  obtain ⟨wq, hbq⟩ := q0
  try dsimp only
  have HBQ := Lib.hid hbq
  clear c1 c3 hbq hus
  by_cases hn0 : 0 < n
  · have hne : ((n : Int) == 0) = false := by simp; omega
    have HG := Lib.hid (grL_app (D := x.D) (k := k) (bs := bs) hn0 HLEFT.out)
    cases hh
    all_goals
      go_wp2_with (first
        | (go_at_call 54; (with_reducible refine (HSTEP.out _ _ HM3.out HL.out hz3 HBL.out).mono ?_); rintro e w4 ⟨rfl, x', h1, h2, h3⟩; have HF1 := Lib.hid h1; have HF2 := Lib.hid h2; have HF3 := Lib.hid h3; clear h1 h2 h3)
        | (go_at_call 52; (with_reducible refine (HRD.out _ HBQ.out).mono ?_); rintro e w3 ⟨rfl, hb3⟩; have HM3 := Lib.hid (Rm.of_below HR.out (HBQ.out.trans (hb3.mono HBQ.out.size))); clear hb3))
      go_ret
      exact ⟨rfl, x', HF1.out, HF3.out, by rw [← HG.out]; exact HF2.out⟩
  · obtain rfl : n = 0 := by omega
    have HN0 : Hid ((useN s (0 : Nat)).toNat = 0) := by
      have := useN_le s 0 HLEFT.out
      show _ = _
      omega
    cases hh
    · have hset : ∀ W, Below w.heap.size w W → Calls Try.prog 53 #[.pointer (some ⟨q, 0, none⟩), .string k, .slice none 0 0] W fun e w' => e = .returned (.tuple #[]) ∧ ∃ x1, Rm w w' q x x1 ∧ Rl s x1 ∧ x1.D = insS x.D k (.slice none 0 0, []) := fun W hW => by
        refine (rset_any k (HR.out.below hW) (BAt.nil W) (fun hi => by obtain ⟨a, n, c, e, _⟩ := hi; cases e) (by omega)).mono ?_
        rintro e w' ⟨rfl, sv', hrs⟩
        refine ⟨rfl, _, (Rm.refl HR.out).set hW hrs (fun i hi => by obtain ⟨a, n, c, e, _⟩ := hi; cases e), ⟨HL.out.dn, HL.out.rm, ?_, HL.out.lf, HL.out.left⟩, rfl⟩
        show s.used = (usedL (insS x.D k (.slice none 0 0, [])) : Int)
        rw [same_used (keys_put HR.out.srt.keys k _) (ins_srt k _ HR.out.srt).keys (ins_alike k dv (.slice none 0 0) [] HR.out.srt), HL.out.used]
        have := used_put (L := x.D) (k := k) (v := dv) (l := [])
        have hz : bytL x.D k = [] := byt_none HHH.out.symm
        rw [hz] at this
        simp at this
        omega
      have HSET := Lib.hid hset
      clear hset
      have hsz : ∀ x1 : RS, x1.D = insS x.D k (.slice none 0 0, []) → x1.D.length + 2 ≤ 1000 ∧ (bytL x1.D k).length ≤ 100000 := fun x1 e => by
        rw [e]
        have := ins_len x.D k (.slice none 0 0, [])
        refine ⟨by omega, ?_⟩
        rw [(ins_alike k dv (.slice none 0 0) [] HR.out.srt k).2, byt_put, if_pos rfl]; simp
      have HSZ := Lib.hid hsz
      clear hsz
      go_wp2_with (first
        | (go_at_call 54; (with_reducible refine (HSTEP.out _ _ HM4.out HL4.out (HSZ.out x1 HD4.out).1 (HSZ.out x1 HD4.out).2).mono ?_); rintro e w5 ⟨rfl, x', h1, h2, h3⟩; have HF1 := Lib.hid h1; have HF2 := Lib.hid h2; have HF3 := Lib.hid h3; clear h1 h2 h3)
        | (go_at_call 53; (with_reducible refine (HSET.out _ HB3.out).mono ?_); rintro e w4 ⟨rfl, x1, h1, h2, h3⟩; have HM4 := Lib.hid h1; have HL4 := Lib.hid h2; have HD4 := Lib.hid h3; clear h1 h2 h3)
        | (go_at_call 52; (with_reducible refine (HRD.out _ HBQ.out).mono ?_); rintro e w3 ⟨rfl, hb3⟩; have HB3 := Lib.hid (HBQ.out.trans (hb3.mono HBQ.out.size)); clear hb3))
      go_ret
      refine ⟨rfl, x', HF1.out, HF3.out, ?_⟩
      have hz : bytL x.D k = [] := byt_none HHH.out.symm
      rw [if_pos (.inr rfl), HN0.out, List.take_zero, List.append_nil, hz]
      refine (ins_alike k dv (.slice none 0 0) [] HR.out.srt).trans ?_
      have := HF2.out
      rw [HN0.out, HD4.out] at this
      exact this
    · go_wp2_with (first
        | (go_at_call 54; (with_reducible refine (HSTEP.out _ _ HM3.out HL.out hz3 HBL.out).mono ?_); rintro e w4 ⟨rfl, x', h1, h2, h3⟩; have HF1 := Lib.hid h1; have HF2 := Lib.hid h2; have HF3 := Lib.hid h3; clear h1 h2 h3)
        | (go_at_call 52; (with_reducible refine (HRD.out _ HBQ.out).mono ?_); rintro e w3 ⟨rfl, hb3⟩; have HM3 := Lib.hid (Rm.of_below HR.out (HBQ.out.trans (hb3.mono HBQ.out.size))); clear hb3))
      go_ret
      refine ⟨rfl, x', HF1.out, HF3.out, ?_⟩
      rw [if_pos (.inr rfl), HN0.out, List.take_zero, List.append_nil]
      refine (put_same dv HHH.out.symm).trans ?_
      have := HF2.out
      rw [HN0.out] at this
      exact this
end Go.Proofs.Ytffeinbbgfogoaa.Sr
