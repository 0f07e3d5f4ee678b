/-
  The contract of replace: bytes in the file's place, by another name. Conditions: at most a million bytes.
-/
import Derived.Test.YtjijgoflbjbnfaaGreatVM21
import Derived.Test.YtjijgoflbjbnfaaGreatJRec
namespace Go.Proofs.YtjijgoflbjbnfaaGreat.Jo
open Go.RowKit Fr Sr

abbrev knew : ByteArray := { data := #[108, 111, 103, 46, 110, 101, 119] }
theorem wri_alike {L L' : List Fi} (h : Sr.Alike L L') (s : S) (k : ByteArray) (bs : List Int) : wriE s L' k bs.length = wriE s L k bs.length ∧ wriS s L' k bs.length = wriS s L k bs.length ∧ Sr.Alike (wriL s L k bs) (wriL s L' k bs) := by
  have e := (h k).2
  have hB : wriB s L' k bs.length = wriB s L k bs.length := by unfold wriB; rw [e]
  refine ⟨by unfold wriE; rw [e], ?_, ?_⟩
  · unfold wriS
    by_cases q : wriB s L k bs.length
    · rw [if_pos q, if_pos (hB.mpr q), e]
    · rw [if_neg q, if_neg (fun z => q (hB.mp z))]
  · unfold wriL
    by_cases q : wriB s L k bs.length
    · rw [if_pos q, if_pos (hB.mpr q)]
      split
      · exact h.put _ _ _ _
      · exact h
    · rw [if_neg q, if_neg (fun z => q (hB.mp z))]
      exact h
theorem fnd_al {L L' : List Fi} (h : Sr.Alike L L') (d : Bool) (k : ByteArray) (ns : List ByteArray) : fnd d L' k ns = fnd d L k ns := by
  unfold fnd
  rw [(h k).1]
theorem ren_alike {L L' : List Fi} (h : Sr.Alike L L') (hk : KeysL L) (hk' : KeysL L') (s : S) (k tn : ByteArray) : renE s L' k tn = renE s L k tn ∧ renS s L' k tn = renS s L k tn ∧ Sr.Alike (renL s L k tn) (renL s L' k tn) := by
  have hf := fnd_al h s.d k [tn, k]
  have hl : Sr.Alike (renL s L k tn) (renL s L' k tn) := by
    unfold renL
    rw [hf, (h k).2]
    split
    · exact (h.del hk hk' k).put _ _ _ _
    · exact h
  have hkl : ∀ {M : List Fi}, KeysL M → KeysL (renL s M k tn) := fun {M} hm => by
    unfold renL
    split
    · exact keys_put (keys_del hm k) _ _
    · exact hm
  refine ⟨?_, ?_, hl⟩
  · unfold renE; rw [hf]
  · unfold renS; rw [hf, same_used (hkl hk) (hkl hk') hl]
theorem keys_wri {s : S} {L : List Fi} (k : ByteArray) (bs : List Int) (h : KeysL L) : KeysL (wriL s L k bs) := by
  unfold wriL
  split
  · split
    · exact keys_put h _ _
    · exact h
  · exact h
def rpE (s : S) (L : List Fi) (bs : List Int) : Int := if wriE s L knew bs.length = 0 then renE (wriS s L knew bs.length) (wriL s L knew bs) knew klog else wriE s L knew bs.length
def rpS (s : S) (L : List Fi) (bs : List Int) : S := if wriE s L knew bs.length = 0 then renS (wriS s L knew bs.length) (wriL s L knew bs) knew klog else wriS s L knew bs.length
def rpL (s : S) (L : List Fi) (bs : List Int) : List Fi := if wriE s L knew bs.length = 0 then renL (wriS s L knew bs.length) (wriL s L knew bs) knew klog else wriL s L knew bs
section
variable {w w' w2 : World} {p j t nx : Nat} {s s2 : S} {mb mb' : Option Nat} {L L' L2 : List Fi} {snd : Bool} {sv : Value} {xs : List Xr} {rs : List Re}
set_option maxRecDepth 100000 in
set_option maxHeartbeats 2000000 in
theorem replace_any (h : JSt w p s mb L j t snd nx sv xs rs) (hkl : KeysL L) {A : Option Addr} {n c : Nat} {bs : List Int} (hb : BAt w (.slice A n c) bs) (hf : BK (fun k => ¬ Tj p mb L j t sv k) (.slice A n c) bs) (hn : n ≤ 1000000) :
    Calls Tryz.prog 61 #[.pointer (some ⟨j, 0, none⟩), .slice A n c] w fun e w' => e = .returned (.int .i64 (rpE s L bs)) ∧ JMv w w' p mb L j t sv t (fun mb' L' sv' => sv = sv' ∧ JSt w' p (rpS s L bs) mb' L' j t (sndE snd (rpE s L bs)) nx sv xs rs ∧ Sr.Alike (rpL s L bs) L') := by
  have hl := hb.len.1
  have HA := Lib.hid (Write_any knew h.st hn hl (fun w' ho => bat_step hb ho (fun hp a n c ha hs => hf hp a n c ha (.inl hs))))
  subst hl
  obtain ⟨E, hE⟩ : ∃ E, E = wriE s L knew bs.length := ⟨_, rfl⟩
  obtain ⟨⟨c0, c1, c2, c3⟩, _⟩ := four h.jr.blk
  have HJ := Lib.hid h
  have HKL := Lib.hid hkl
  rw [← hE] at HA
  by_cases hz : E = 0
  · have hz0 : wriE s L knew bs.length = 0 := hE.symm.trans hz
    have e1 : rpE s L bs = renE (wriS s L knew bs.length) (wriL s L knew bs) knew klog := if_pos hz0
    have e2 : rpS s L bs = renS (wriS s L knew bs.length) (wriL s L knew bs) knew klog := if_pos hz0
    have e3 : rpL s L bs = renL (wriS s L knew bs.length) (wriL s L knew bs) knew klog := if_pos hz0
    rw [e1, e2, e3]
    subst hz
    clear h hb hf hE hz0 e1 e2 e3 hkl
    obtain ⟨s1, hs1⟩ : ∃ s1, s1 = wriS s L knew bs.length := ⟨_, rfl⟩
    obtain ⟨L1, hL1⟩ : ∃ L1, L1 = wriL s L knew bs := ⟨_, rfl⟩
    have HK1 : Hid (KeysL L1) := by show KeysL L1; rw [hL1]; exact keys_wri _ _ HKL.out
    rw [← hs1, ← hL1] at HA ⊢
    clear hs1 hL1
    obtain ⟨E2, hE2⟩ : ∃ E2, E2 = renE s1 L1 knew klog := ⟨_, rfl⟩
    have HE2 := Lib.hid hE2
    rw [← hE2]
    clear hE2
    go_enter Tryz.func61, Tryz.ntmps61
    go_wp2_with (first
      | (go_at_call 89; (with_reducible refine HT2.out.mono ?_); rintro e w5 ⟨rfl, hj5, ho5⟩; have HJ5 := Lib.hid hj5; have HO5 := Lib.hid ho5; clear hj5 ho5)
      | (go_at_call 92; (with_reducible refine HR.out.mono ?_); rintro e w4 ⟨rfl, mb4, L4, mv4, al4⟩; have HM4 := Lib.hid mv4; have HAL4 := Lib.hid al4; have HT2 := Lib.hid (told_any (HJ3.out.store mv4) E2); clear mv4 al4)
      | (go_at_call 89; (with_reducible refine HTD.out.mono ?_); rintro e w3 ⟨rfl, hj3, ho3⟩
         have hj3' : JSt w3 p s1 mb' L' j t snd nx sv xs rs := hj3
         have hr := Rename_any knew klog hj3'.st
         have hal := ren_alike HAL.out HK1.out hj3'.st.keys s1 knew klog
         rw [hal.1, hal.2.1, ← HE2.out] at hr
         have HR := Lib.hid hr
         have HA3 := Lib.hid hal.2.2
         have c0' := (four hj3'.jr.blk).1.1
         have HJ3 := Lib.hid hj3'; have HO3 := Lib.hid ho3; clear hj3 ho3 hr hal hj3')
      | (go_at_call 23; (with_reducible refine HA.out.mono ?_); rintro e w2 ⟨rfl, mb', L', mv, al⟩; have HMV := Lib.hid mv; have HAL := Lib.hid al; have HTD := Lib.hid (told_any (HJ.out.store mv) 0); clear mv al))
    go_ret
    refine ⟨rfl, mb4, L4, sv, ⟨rfl, HJ5.out, HA3.out.trans HAL4.out⟩, ?_, ?_⟩
    · have h1 : Off (Tj p mb L j t sv) w w3 := off_two HMV.out.off HO3.out (fun i hi => .inl hi) (fun i hi => .inl (.inr hi))
      have h2 : Off (Tj p mb' L' j t sv) w3 w5 := off_two HM4.out.off HO5.out (fun i hi => .inl hi) (fun i hi => .inl (.inr hi))
      refine off_two h1 h2 (fun i hi => hi) (fun i hi => ?_)
      rcases hi with hi | hi
      · exact (HMV.out.new i hi).imp .inl id
      · exact .inl (.inr hi)
    · intro i hi
      rcases hi with hi | hi
      · rcases HM4.out.new i hi with h1 | h1
        · exact (HMV.out.new i h1).imp .inl id
        · exact .inr (Nat.le_trans HMV.out.off.1.size (Nat.le_trans HO3.out.1.size h1))
      · exact .inl (.inr hi)
  · have hz0 : ¬ wriE s L knew bs.length = 0 := fun e => hz (hE.trans e)
    have e1 : rpE s L bs = E := (if_neg hz0).trans hE.symm
    have e2 : rpS s L bs = wriS s L knew bs.length := if_neg hz0
    have e3 : rpL s L bs = wriL s L knew bs := if_neg hz0
    rw [e1, e2, e3]
    have hEb : (E != 0) = true := by simpa using hz
    clear h hb hf hE hz0 e1 e2 e3 hkl
    go_enter Tryz.func61, Tryz.ntmps61
    go_wp2_with (first
      | (go_at_call 89; (with_reducible refine HTD.out.mono ?_); rintro e w3 ⟨rfl, hj3, ho3⟩; have HJ3 := Lib.hid hj3; have HO3 := Lib.hid ho3; clear hj3 ho3)
      | (go_at_call 23; (with_reducible refine HA.out.mono ?_); rintro e w2 ⟨rfl, mb', L', mv, al⟩; have HMV := Lib.hid mv; have HAL := Lib.hid al; have HTD := Lib.hid (told_any (HJ.out.store mv) E); clear mv al))
    go_ret
    refine ⟨rfl, mb', L', sv, ⟨rfl, HJ3.out, HAL.out⟩, off_two HMV.out.off HO3.out (fun i hi => .inl hi) (fun i hi => .inl (.inr hi)), fun i hi => ?_⟩
    rcases hi with hi | hi
    · exact (HMV.out.new i hi).imp .inl id
    · exact .inl (.inr hi)
end
end Go.Proofs.YtjijgoflbjbnfaaGreat.Jo

namespace Go.Proofs.YtjijgoflbjbnfaaGreat.Jo
open Go.RowKit Go.Shelf Fr Sr

structure TI (w : World) (FB : List (List Int)) (s : List Xr × Value × Value) (W : World) : Prop where
  sb : Boxed W w.heap.size 109 s.2.2
  fb : Boxed W (w.heap.size + 1) 32 s.2.1
  fr : W.ownsRow (w.heap.size + 2) 5 1 s.2.1 (FB.take s.1.length).flatten.length (bv (FB.take s.1.length).flatten)
  sr : W.ownsRow (w.heap.size + 2) 100 2 s.2.2 s.1.length (Tb.Ib.cells s.1)
  ne : ∀ i, s.2.1.ownBlock = some i → s.2.2.ownBlock ≠ some i
  len : s.1.length ≤ FB.length
  bel : Below w.heap.size w W
def TK (w : World) (s : List Xr × Value × Value) (k : Nat) : Prop := k ≠ w.heap.size ∧ k ≠ w.heap.size + 1 ∧ s.2.1.ownBlock ≠ some k ∧ s.2.2.ownBlock ≠ some k
theorem own_obj {w : World} {base : Nat} {e : TypeId} {size n : Nat} {v : Value} {us : List Value} (h : w.ownsRow base e size v n us) {i : Nat} (hi : v.ownBlock = some i) : ∃ cs ty fr, w.heap[i]? = some (.cells cs ty fr) := by
  obtain ⟨_, h1 | ⟨g, cap, cur, h4, _, h5, _⟩⟩ := h
  · rw [h1.1] at hi; cases hi
  · rw [h4] at hi; cases hi
    exact ⟨_, _, _, h5⟩
theorem TI.kept {w X Y : World} {FB : List (List Int)} {s : List Xr × Value × Value} {S : Nat → Prop} (h : TI w FB s X) (ho : Off S X Y) (hS : ∀ i, S i → w.heap.size ≤ i ∧ TK w s i) : TI w FB s Y :=
  ⟨(ho.2 _ h.sb.lt (fun e => (hS _ e).2.1 rfl)).trans h.sb, (ho.2 _ h.fb.lt (fun e => (hS _ e).2.2.1 rfl)).trans h.fb,
    Oc.ownsRow_kept h.fr (fun g hg => ho.2 g (h.fr.lt g hg).2 (fun e => (hS g e).2.2.2.1 hg)), Oc.ownsRow_kept h.sr (fun g hg => ho.2 g (h.sr.lt g hg).2 (fun e => (hS g e).2.2.2.2 hg)), h.ne, h.len,
    h.bel.trans ⟨ho.1.os, ho.1.tape, ho.1.output, ho.1.size, fun i hi => ho.2 i (Nat.lt_of_lt_of_le hi h.bel.size) (fun e => by have := (hS i e).1; omega)⟩⟩
theorem TI.from {w : World} {N : Nat} {FB : List (List Int)} (hN : w.heap.size ≤ N) : OwnFrom N (TI w FB) := fun s X Y row h hg hr => by
  refine h.kept (Off.of_grown (T := fun i => row = some i) hg fun i e => e) fun i hi => ?_
  obtain ⟨h1, o, h2, h3⟩ := hr i hi
  have hne : ∀ {b : Nat}, (∃ cs ty fr, X.heap[b]? = some (.cells cs ty fr)) → i ≠ b := fun hb e => by
    obtain ⟨cs, ty, fr, hb⟩ := hb
    rw [e, hb] at h2
    cases h2; cases h3
  exact ⟨by omega, hne ⟨_, _, _, h.sb⟩, hne ⟨_, _, _, h.fb⟩, fun e => hne (own_obj h.fr e) rfl, fun e => hne (own_obj h.sr e) rfl⟩
/-- Bytes behind a row of bytes. -/
theorem app_bytes {w : World} {base m c k n : Nat} {v : Value} {l b : List Int} {A : Option Addr} (hown : w.ownsRow base 5 1 v k (bv l)) (hx : BAt w (.slice A m c) b) (hm : 0 < m) (hn : n = k + m) (hb : n ≤ 4000000) (hbase : base ≤ w.heap.size) :
    ∃ A' c' w', (Builtin.append_ #[32, 32] 32 #[v, .slice A m c]).run Tryz.prog w = .ok (.slice A' n c') w' ∧ w'.ownsRow base 5 1 (.slice A' n c') n (bv (l ++ b)) ∧ w.grownBy w' v.ownBlock ∧ ∀ i, (Value.slice A' n c').ownBlock = some i → v.ownBlock = some i ∨ w.heap.size ≤ i := by
  subst hn
  obtain ⟨i0, hi0, hz0, hz1, hz2⟩ := info_parts u8Inf
  have hl := hx.len.1
  subst hl
  obtain ⟨A2, cap, h1, _, hc⟩ := id hx
  obtain ⟨g, o, h3, _⟩ := hc hm
  cases h1
  subst h3
  obtain ⟨v', w', hr, ho, hg, _, hat⟩ := run_append_own_at (P := Tryz.prog) w base 32 32 5 i0 (.int .u8 0) 1 1 Tryz.underlying32 hi0 hz0 hz1 hz2 rfl (by decide) v k (bv l) hown ⟨g, o, none⟩ b.length c (bv b) (by rw [bv_len, Nat.mul_one]) (bat_cells hx rfl) (bv_one _) (by unfold maxLen; omega) (by omega) hbase
  rw [← bv_app] at ho
  have hk : k = l.length := by have := hown.1; rw [bv_len] at this; omega
  have ho2 : w'.ownsRow base 5 1 v' (l ++ b).length (bv (l ++ b)) := by rw [List.length_append, ← hk]; exact ho
  obtain ⟨A1, c1, h1, _⟩ := BAt.of_own ho2
  rw [List.length_append, ← hk] at h1
  subst h1
  refine ⟨A1, c1, w', hr, ho, hg, fun i hi => ?_⟩
  rcases hat with h2 | h2
  · exact .inl (h2.symm.trans hi)
  · rw [h2] at hi; cases hi; exact .inr (Nat.le_refl _)
/-- A row behind a row of rows. -/
theorem app_rec {w : World} {base n g : Nat} {v : Value} {us : List Value} {u1 u2 : Value} (h : w.ownsRow base 100 2 v n us) (hn : n ≤ 100000) (hb : base ≤ w.heap.size) (hg : w.heap[g]? = some (.cells #[u1, u2] 100 (0, 0))) (hu1 : u1.oneCell' = true) (hu2 : u2.oneCell' = true) :
    ∃ A' n' c' w', (Builtin.append_ #[109, 109] 109 #[v, .slice (some ⟨g, 0, none⟩) 1 1]).run Tryz.prog w = .ok (.slice A' n' c') w' ∧ w'.ownsRow base 100 2 (.slice A' n' c') (n + 1) (us ++ [u1, u2]) ∧ w.grownBy w' v.ownBlock ∧ ∀ i, (Value.slice A' n' c').ownBlock = some i → v.ownBlock = some i ∨ w.heap.size ≤ i := by
  obtain ⟨i0, hi0, hz0, hz1, hz2⟩ := info_parts Tb.Ib.rowInfo
  obtain ⟨v', w', hr, ho, hgr, _, hat⟩ := run_append_own_at (P := Tryz.prog) w base 109 109 100 i0 _ 2 32 Tryz.underlying109 hi0 hz0 hz1 hz2 rfl (by decide) v n us h ⟨g, 0, none⟩ 1 1 [u1, u2] rfl (World.news_of_block (cs := #[u1, u2]) hg) (by simp [hu1, hu2]) (by unfold maxLen; omega) (by omega) hb
  obtain ⟨A, m, c, rfl⟩ : ∃ A n c, v' = .slice A n c := by
    rcases ho.2 with ⟨h7, _⟩ | ⟨g, cap, cur, h7, _⟩
    · exact ⟨none, 0, 0, h7⟩
    · exact ⟨_, _, _, h7⟩
  refine ⟨A, m, c, w', hr, ho, hgr, fun i hi => ?_⟩
  rcases hat with h2 | h2
  · exact .inl (h2.symm.trans hi)
  · rw [h2] at hi; cases hi; exact .inr (Nat.le_refl _)
theorem off_set (w : World) (b : Nat) (u : Value) : Off (fun i => i = b) w (w.setCell ⟨b, 0, none⟩ u) := Off.of_grown (grownBy_set _ _ _) fun _i e => (Option.some.inj e).symm
set_option maxHeartbeats 1000000 in
/-- A round: one more frame, one more row. -/
theorem trim_step {w W w3 : World} {FB : List (List Int)} {pre : List Xr} {fv st : Value} {x : Xr} {A3 : Option Addr} {n3 c3 : Nat} {b : List Int} (h : TI w FB (pre, fv, st) W) (hN : FB[pre.length]? = some b ∧ FB.take (pre.length + 1) = FB.take pre.length ++ [b] ∧ (FB.take (pre.length + 1)).flatten.length ≤ 1000000 ∧ 0 < b.length ∧ pre.length ≤ 1000) (hb : BAt w3 (.slice A3 n3 c3) b) (hbl : Below W.heap.size W w3) :
    w3.cell? ⟨w.heap.size + 1, 0, none⟩ = some fv ∧ ∃ A5 n5 c5 w5, (Builtin.append_ #[32, 32] 32 #[fv, .slice A3 n3 c3]).run Tryz.prog w3 = .ok (.slice A5 n5 c5) w5 ∧ (w5.cell? ⟨w.heap.size + 1, 0, none⟩ = some fv ∧ w5.frozen? ⟨w.heap.size + 1, 0, none⟩ = false) ∧
      ∃ w6, w6 = w5.setCell ⟨w.heap.size + 1, 0, none⟩ (.slice A5 n5 c5) ∧ w6.cell? ⟨w.heap.size, 0, none⟩ = some st ∧
      ∃ A8 n8 c8 w8, (Builtin.append_ #[109, 109] 109 #[st, .slice (some ⟨w6.heap.size, 0, none⟩) 1 1]).run Tryz.prog (w6.alloc (.cells #[.int .i64 x.1, .slice x.2.A x.2.n x.2.c] 100)) = .ok (.slice A8 n8 c8) w8 ∧ (w8.cell? ⟨w.heap.size, 0, none⟩ = some st ∧ w8.frozen? ⟨w.heap.size, 0, none⟩ = false) ∧
      KS (TK w (pre, fv, st)) W (w8.setCell ⟨w.heap.size, 0, none⟩ (.slice A8 n8 c8)) ∧ ∃ s' : List Xr × Value × Value, s'.1 = pre ++ [x] ∧ TI w FB s' (w8.setCell ⟨w.heap.size, 0, none⟩ (.slice A8 n8 c8)) ∧ Goes (TK w (pre, fv, st)) (TK w s') W := by
  have hsz := hbl.size
  have hls : w.heap.size < W.heap.size := h.sb.lt
  have hlf : w.heap.size + 1 < W.heap.size := h.fb.lt
  have hpl : pre.length < FB.length := (List.getElem?_eq_some_iff.1 hN.1).1
  have hfl : ∀ i, fv.ownBlock = some i → w.heap.size + 2 ≤ i ∧ i < W.heap.size := fun i hi => h.fr.lt i hi
  have hsl : ∀ i, st.ownBlock = some i → w.heap.size + 2 ≤ i ∧ i < W.heap.size := fun i hi => h.sr.lt i hi
  have hne : ∀ i, fv.ownBlock = some i → st.ownBlock ≠ some i := h.ne
  have o3 := Off.of_below (fun _ => False) hbl
  have h3 := h.kept o3 (fun _ e => e.elim)
  have hbn := hb.len.1
  obtain ⟨A5, c5, w5, hr5, ho5, hg5, hn5⟩ := app_bytes (n := (FB.take pre.length).flatten.length + n3) h3.fr hb (by omega) rfl (by
    have := hN.2.2.1
    rw [hN.2.1, List.flatten_append, List.length_append] at this
    simp at this
    simp
    omega) (by omega)
  obtain ⟨n5, hn5'⟩ : ∃ n5, n5 = (FB.take pre.length).flatten.length + n3 := ⟨_, rfl⟩
  rw [← hn5'] at hr5 ho5 hn5
  have o5 : Off (fun i => fv.ownBlock = some i) w3 w5 := Off.of_grown (T := fun i => fv.ownBlock = some i) hg5 fun i e => e
  have z5 := o5.1.size
  have bf5 : Boxed w5 (w.heap.size + 1) 32 fv := (o5.2 _ (by omega) (fun e => by have := (hfl _ e).1; omega)).trans h3.fb
  have bs5 : Boxed w5 w.heap.size 109 st := (o5.2 _ (by omega) (fun e => by have := (hfl _ e).1; omega)).trans h3.sb
  have sr5 : w5.ownsRow (w.heap.size + 2) 100 2 st pre.length (Tb.Ib.cells pre) := Oc.ownsRow_kept h3.sr (fun g hg => o5.2 g (by have := (hsl g hg).2; omega) (fun e => hne g e hg))
  refine ⟨h3.fb.cell, A5, n5, c5, w5, hr5, ⟨bf5.cell, bf5.frozen⟩, _, rfl, ?_⟩
  have o6 := off_set w5 (w.heap.size + 1) (.slice A5 n5 c5)
  obtain ⟨w6, hw6⟩ : ∃ w6, w6 = w5.setCell ⟨w.heap.size + 1, 0, none⟩ (.slice A5 n5 c5) := ⟨_, rfl⟩
  have bf6 : Boxed w6 (w.heap.size + 1) 32 (.slice A5 n5 c5) := by rw [hw6]; exact block_put bf5 _
  rw [← hw6] at o6 ⊢
  have z6 := o6.1.size
  have bs6 : Boxed w6 w.heap.size 109 st := (o6.2 _ (by omega) (by omega)).trans bs5
  have sr6 := Oc.ownsRow_kept sr5 (fun g hg => o6.2 g (by have := (hsl g hg).2; omega) (fun e => by have := (hsl g hg).1; omega))
  have fr6 := Oc.ownsRow_kept ho5 (fun g hg => o6.2 g (ho5.lt g hg).2 (fun e => by have := (ho5.lt g hg).1; omega))
  have hal := alloc_below w6 (.cells #[.int .i64 x.1, .slice x.2.A x.2.n x.2.c] 100)
  have blk := block_new w6 (.cells #[.int .i64 x.1, .slice x.2.A x.2.n x.2.c] 100)
  obtain ⟨w7, hw7⟩ : ∃ w7, w7 = w6.alloc (.cells #[.int .i64 x.1, .slice x.2.A x.2.n x.2.c] 100) := ⟨_, rfl⟩
  rw [← hw7] at hal blk ⊢
  have z7 := hal.size
  have sr7 := Oc.ownsRow_kept sr6 (fun g hg => hal.block g (sr6.lt g hg).2)
  have fr7 := Oc.ownsRow_kept fr6 (fun g hg => hal.block g (fr6.lt g hg).2)
  have bs7 : Boxed w7 w.heap.size 109 st := block_kept bs6 hal
  have bf7 : Boxed w7 (w.heap.size + 1) 32 (.slice A5 n5 c5) := block_kept bf6 hal
  obtain ⟨A8, n8, c8, w8, hr8, ho8, hg8, hn8⟩ := app_rec sr7 (by omega) (by omega) blk rfl rfl
  have o8 : Off (fun i => st.ownBlock = some i) w7 w8 := Off.of_grown (T := fun i => st.ownBlock = some i) hg8 fun i e => e
  have z8 := o8.1.size
  have bs8 : Boxed w8 w.heap.size 109 st := (o8.2 _ (by omega) (fun e => by have := (hsl _ e).1; omega)).trans bs7
  have bf8 : Boxed w8 (w.heap.size + 1) 32 (.slice A5 n5 c5) := (o8.2 _ (by omega) (fun e => by have := (hsl _ e).1; omega)).trans bf7
  have hd : ∀ i, (Value.slice A5 n5 c5).ownBlock = some i → st.ownBlock ≠ some i := fun i hi e => by
    rcases hn5 i hi with h1 | h1
    · exact hne i h1 e
    · have := (hsl i e).2; omega
  have fr8 := Oc.ownsRow_kept fr7 (fun g hg => o8.2 g (fr7.lt g hg).2 (hd g hg))
  refine ⟨bs6.cell, A8, n8, c8, w8, hr8, ⟨bs8.cell, bs8.frozen⟩, ?_⟩
  have o9 := off_set w8 w.heap.size (.slice A8 n8 c8)
  have bs9 : Boxed (w8.setCell ⟨w.heap.size, 0, none⟩ (.slice A8 n8 c8)) w.heap.size 109 (.slice A8 n8 c8) := block_put bs8 _
  obtain ⟨w9, hw9⟩ : ∃ w9, w9 = w8.setCell ⟨w.heap.size, 0, none⟩ (.slice A8 n8 c8) := ⟨_, rfl⟩
  rw [← hw9] at o9 bs9 ⊢
  have z9 := o9.1.size
  have bf9 : Boxed w9 (w.heap.size + 1) 32 (.slice A5 n5 c5) := (o9.2 _ (by omega) (by omega)).trans bf8
  have fr9 := Oc.ownsRow_kept fr8 (fun g hg => o9.2 g (fr8.lt g hg).2 (fun e => by have := (fr8.lt g hg).1; omega))
  have sr9 := Oc.ownsRow_kept ho8 (fun g hg => o9.2 g (ho8.lt g hg).2 (fun e => by have := (ho8.lt g hg).1; omega))
  have oW : ∀ i, i < W.heap.size → TK w (pre, fv, st) i → w9.heap[i]? = W.heap[i]? := fun i hi hk =>
    (o9.2 i (by omega) hk.1).trans ((o8.2 i (by omega) hk.2.2.2).trans ((hal.block i (by omega)).trans ((o6.2 i (by omega) hk.2.1).trans ((o5.2 i (by omega) hk.2.2.1).trans (hbl.block i hi)))))
  have eL : ((pre ++ [x], Value.slice A5 n5 c5, Value.slice A8 n8 c8) : List Xr × Value × Value).1.length = pre.length + 1 := by simp
  refine ⟨⟨by omega, fun i hk hi => oW i hi hk⟩, (pre ++ [x], .slice A5 n5 c5, .slice A8 n8 c8), rfl, ⟨bs9, bf9, ?_, ?_, ?_, ?_, ?_⟩, fun i hk hi => ⟨hk.1, hk.2.1, fun e => ?_, fun e => ?_⟩⟩
  · rw [eL, hN.2.1, List.flatten_append]
    have e2 : ((FB.take pre.length).flatten ++ [b].flatten).length = n5 := by
      rw [hn5', List.length_append]; simp; omega
    rw [e2]
    have e3 : [b].flatten = b := by simp
    rw [e3]
    exact fr9
  · rw [eL, Tb.Ib.cells_append]
    exact sr9
  · intro i hi e
    have hi' : (Value.slice A5 n5 c5).ownBlock = some i := hi
    rcases hn8 i e with h1 | h1
    · exact hd i hi' h1
    · have := (fr7.lt i hi').2; omega
  · rw [eL]; omega
  · exact h.bel.trans ⟨o9.1.os.trans (o8.1.os.trans (hal.os.trans (o6.1.os.trans (o5.1.os.trans hbl.os)))), o9.1.tape.trans (o8.1.tape.trans (hal.tape.trans (o6.1.tape.trans (o5.1.tape.trans hbl.tape)))), o9.1.output.trans (o8.1.output.trans (hal.output.trans (o6.1.output.trans (o5.1.output.trans hbl.output)))), by omega, fun i hi => oW i (by omega) ⟨by omega, by omega, fun e => by have := (hfl i e).1; omega, fun e => by have := (hsl i e).1; omega⟩⟩
  · rcases hn5 i e with h1 | h1
    · exact hk.2.2.1 h1
    · omega
  · rcases hn8 i e with h1 | h1
    · exact hk.2.2.2 h1
    · omega
end Go.Proofs.YtjijgoflbjbnfaaGreat.Jo

namespace Go.Proofs.YtjijgoflbjbnfaaGreat.Jo
open Go.RowKit Fr Sr

theorem putAll_asc : ∀ (l : List Xr), Tb.asc l → Tb.putAll l = l := by
  suffices h : ∀ (n : Nat) (l : List Xr), l.length = n → Tb.asc l → Tb.putAll l = l from fun l => h _ l rfl
  intro n
  induction n with
  | zero => intro l hl _; rw [List.length_eq_zero_iff.1 hl]; rfl
  | succ n ih =>
    intro l hl ha
    rcases List.eq_nil_or_concat l with h1 | ⟨m, r, rfl⟩
    · rw [h1] at hl; cases hl
    · rw [List.concat_eq_append] at *
      rw [List.length_append] at hl
      have h2 := List.pairwise_append.1 ha
      rw [Tb.putAll_snoc, ih m (by simpa using hl) h2.1]
      refine (put_last m r.1 r.2 fun x hx => ?_).1
      exact of_decide_eq_true (h2.2.2 x hx r (by simp))
theorem Vals.drop {w : World} {T : Nat → Prop} {xs : List Xr} {rs : List Re} (h : Vals w T xs rs) (n : Nat) : Vals w T (xs.drop n) (rs.drop n) :=
  ⟨by rw [List.length_drop, List.length_drop, h.1], fun i x r hx hr => by
    rw [List.getElem?_drop] at hx hr
    exact h.2 _ x r hx hr⟩
section
variable {w w5 w6 : World} {p j t nx tb : Nat} {s s2 : S} {mb mb' : Option Nat} {L L' : List Fi} {snd : Bool} {sv : Value} {xs : List Xr} {rs : List Re}
/-- The rest of the records in a table anew. -/
theorem JSt.retab (h : JSt w5 p s mb L j t snd nx sv xs rs) (n : Nat) (hT : Tb.Ib.TabO w5.heap.size w6 tb (xs.drop n)) (hb : Below w5.heap.size w5 w6) :
    ∃ sv', JSt (w6.setCell ⟨j, 2, none⟩ (.pointer (some ⟨tb, 0, none⟩))) p s mb L j tb snd nx sv' (xs.drop n) (rs.drop n) ∧ ∀ i, oj j tb sv' i → i = j ∨ w5.heap.size ≤ i := by
  obtain ⟨h1, v, h2, h3⟩ := hT
  have jl : j < w5.heap.size := h.jr.oj_lt (.inl rfl)
  have h6 := h.below hb
  have o7 : Off (fun i => i = j) w6 (w6.setCell ⟨j, 2, none⟩ (.pointer (some ⟨tb, 0, none⟩))) := Off.of_grown (grownBy_set _ _ _) fun i e => (Option.some.inj e).symm
  have o57 : Off (fun i => i = j) w5 (w6.setCell ⟨j, 2, none⟩ (.pointer (some ⟨tb, 0, none⟩))) := off_two (Off.of_below (fun _ => False) hb) o7 (fun _ e => e.elim) (fun _ e => .inl e)
  refine ⟨v, ⟨h6.st.kept o7 (fun i hi e => h6.sep i hi (.inl e)), ⟨set_four h6.jr.blk 2 _ (by simp), ?_, ?_, List.Pairwise.drop h.jr.asc, fun x hx => h.jr.lt x (List.mem_of_mem_drop hx), ?_, h.jr.nxl⟩, fun i hi => ?_⟩, fun i hi => ?_⟩
  · exact ⟨Nat.zero_le _, (o7.2 tb h2.lt (by omega)).trans h2, Oc.ownsRow_kept (Go.Joins.ownsRow_le h3 (Nat.zero_le _)) (fun g hg => o7.2 g (h3.lt g hg).2 (fun e => by have := (h3.lt g hg).1; omega))⟩
  · refine (h.jr.vals.step o57 (fun i e => .inr (.inl e)) (fun i hi => ?_)).drop n
    rcases hi with hi | rfl | rfl | hi
    · exact .inl (.inl hi)
    · exact .inl (.inr (.inl rfl))
    · exact .inr h1
    · exact .inr (h3.lt i hi).1
  · rw [List.length_drop]; have := h.jr.few; omega
  · have hl := own_lt h.st hi
    rintro (rfl | rfl | ho)
    · exact h.sep _ hi (.inl rfl)
    · omega
    · have := (h3.lt i ho).1; omega
  · rcases hi with rfl | rfl | hi
    · exact .inl rfl
    · exact .inr h1
    · exact .inr (h3.lt i hi).1
/-- Behind Trim. -/
theorem trim_fin {W : World} {Q : Option Nat → List Fi → Prop} (h5 : JSt w5 p s2 mb' L' j t snd nx sv xs rs) (hQ : Q mb' L') (ho : Off (Tj p mb L j t sv) W w5) (hn : ∀ i, Tj p mb' L' j t sv i → Tj p mb L j t sv i ∨ W.heap.size ≤ i) (n : Nat) (hT : Tb.Ib.TabO w5.heap.size w6 tb (Tb.putAll (xs.drop n))) (hb : Below w5.heap.size w5 w6) :
    JMv W (w6.setCell ⟨j, 2, none⟩ (.pointer (some ⟨tb, 0, none⟩))) p mb L j t sv tb (fun mb' L' sv' => ∃ xs', JSt (w6.setCell ⟨j, 2, none⟩ (.pointer (some ⟨tb, 0, none⟩))) p s2 mb' L' j tb snd nx sv' xs' (rs.drop n) ∧ Q mb' L') := by
  rw [putAll_asc _ (List.Pairwise.drop h5.jr.asc)] at hT
  obtain ⟨sv', h7, h8⟩ := h5.retab n hT hb
  have o7 : Off (fun i => i = j) w6 (w6.setCell ⟨j, 2, none⟩ (.pointer (some ⟨tb, 0, none⟩))) := Off.of_grown (grownBy_set _ _ _) fun i e => (Option.some.inj e).symm
  refine ⟨mb', L', sv', ⟨_, h7, hQ⟩, ?_, fun i hi => ?_⟩
  · exact off_two ho (off_two (Off.of_below (fun _ => False) hb) o7 (T := fun i => i = j) (fun _ e => e.elim) (fun _ e => .inl e)) (fun _ e => e) (fun i e => .inl (.inr (.inl e)))
  · rcases hi with hi | hi
    · exact hn i (.inl hi)
    · rcases h8 i hi with h9 | h9
      · exact .inl (.inr (.inl h9))
      · exact .inr (Nat.le_trans ho.1.size h9)
/-- The loop's block is put back. -/
theorem trim_put {W w7 : World} {D t' : Nat} {Q : Option Nat → List Fi → Prop} {rs' : List Re} (hbW : Below w.heap.size w W) (htl : ∀ i, Tj p mb L j t sv i → i < w.heap.size) (hD : W.heap[D]? = some (.deferred (some []))) (hl : w.heap.size ≤ D) (h : JMv W w7 p mb L j t sv t' (fun mb' L' sv' => ∃ xs', JSt w7 p s2 mb' L' j t' snd nx sv' xs' rs' ∧ Q mb' L')) :
    w7.heap[D]? = some (.deferred (some [])) ∧ ∀ o, ∃ t', JMv w (w7.putObj D o) p mb L j t sv t' (fun mb' L' sv' => ∃ xs', JSt (w7.putObj D o) p s2 mb' L' j t' snd nx sv' xs' rs' ∧ Q mb' L') := by
  obtain ⟨mb', L', sv', ⟨xs', hj, hq⟩, ho, hn⟩ := h
  have hDW : D < W.heap.size := (Array.getElem?_eq_some_iff.1 hD).1
  have h7 : w7.heap[D]? = some (.deferred (some [])) := (ho.2 D hDW (fun hi => by have := htl D hi; omega)).trans hD
  refine ⟨h7, fun o => ?_⟩
  have o2 : Off (fun i => i = D) w7 (w7.putObj D o) := Off.of_grown (grownBy_putObj' w7 D o) fun i e => (Option.some.inj e).symm
  have hnot : ∀ i, Tj p mb' L' j t' sv' i → ¬ i = D := fun i hi e => by
    rcases hn i hi with h1 | h1
    · have := htl i h1; omega
    · omega
  have js := hj.out o2 (fun i hi => hnot i (.inl hi)) (fun i hi => hnot i (.inr hi)) (fun i hi ob hob => by
    rw [hi, h7] at hob
    cases hob
    exact .inl rfl)
  exact ⟨t', mb', L', sv', ⟨xs', js, hq⟩, off_two ((Off.of_below _ hbW).trans ho (fun _ e => .inl e)) o2 (fun _ e => e) (fun i e => .inr (by omega)), fun i hi => (hn i hi).imp id (fun h1 => Nat.le_trans hbW.size h1)⟩
end
end Go.Proofs.YtjijgoflbjbnfaaGreat.Jo
