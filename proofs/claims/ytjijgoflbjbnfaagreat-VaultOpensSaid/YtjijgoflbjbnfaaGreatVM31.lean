/-
  The contract of Open. Conditions: a store that is up; at most eight hundred bytes in the journal's file.
-/
import Derived.Test.YtjijgoflbjbnfaaGreatVM28
import Derived.Test.YtjijgoflbjbnfaaGreatVM27
import Derived.Test.YtjijgoflbjbnfaaGreatVM30
import Derived.Test.YtjijgoflbjbnfaaGreatVM24
import Derived.Test.YtjijgoflbjbnfaaGreatVM3
import Derived.Deep.RegionHeld3
namespace Go.Proofs.YtjijgoflbjbnfaaGreat.Vt
open Go.RowKit Fr Sr Jo Sp

theorem fst_lt {w : World} {p j t nx : Nat} {s : S} {mb : Option Nat} {L : List Fi} {jn : Bool} {sv : Value} {xs : List Xr} {rs : List Re} (h : JSt w p s mb L j t jn nx sv xs rs) (hr : rs ≠ []) : fstR rs nx < nx := by
  cases rs with
  | nil => exact absurd rfl hr
  | cons r rs =>
    cases xs with
    | nil => have := h.jr.vals.1; simp at this
    | cons x xs =>
      have h1 := (h.jr.vals.2 0 x r rfl rfl).1
      have h2 := h.jr.lt x List.mem_cons_self
      show r.1 < nx
      omega
/-- What Open leaves. -/
def VOpened (w w' : World) (p : Nat) (mb : Option Nat) (L : List Fi) (s2 : S) (L2 : List Fi) (nx : Nat) (rs : List Re) (pk : List (List Int)) (e : Ending) : Prop :=
  Off (own p mb L) w w' ∧ ((joE rs nx pk.length = 0 ∧ ∃ Z vb j t sv xs mb' L' A m c, e = .returned (.tuple #[.pointer (some ⟨vb, 0, none⟩), .int .i64 0]) ∧ VaX w' Z p vb s2 mb' L' j t true (if rs = [] then pk.length else nx) sv xs rs A m c pk pk.length true ∧ Sr.Alike L2 L' ∧ ∀ k, Z k → own p mb L k ∨ w.heap.size ≤ k) ∨
    (joE rs nx pk.length = 8 ∧ ∃ mb' L', e = .returned (.tuple #[.pointer none, .int .i64 8]) ∧ StR w' p s2 mb' L' ∧ Sr.Alike L2 L' ∧ ∀ k, own p mb' L' k → own p mb L k ∨ w.heap.size ≤ k))
theorem vopen_new {w w1 : World} {p j t nx : Nat} {s : S} {mb mb' : Option Nat} {L L' : List Fi} {sv : Value} {xs : List Xr} {rs : List Re} (h : JSt w1 p s mb' L' j t true nx sv xs rs) (ho : Off (own p mb L) w w1) (hn : ∀ i, own p mb' L' i → own p mb L i ∨ w.heap.size ≤ i) (hj : ∀ i, oj j t sv i → w.heap.size ≤ i) :
    VaX (w1.alloc (vcells p none 0 0 j 0 true)) (fun k => Tj p mb' L' j t sv k ∨ k = w1.heap.size) p w1.heap.size s mb' L' j t true nx sv xs rs none 0 0 [] 0 true ∧ (∀ k, (Tj p mb' L' j t sv k ∨ k = w1.heap.size) → own p mb L k ∨ w.heap.size ≤ k) := by
  have hb := alloc_below w1 (vcells p none 0 0 j 0 true)
  have h2 := h.below hb
  refine ⟨⟨h2, block_new _ _, RowsT.nil _ _ _ _, fun i hi => .inl hi, .inr rfl, fun hp => absurd hp (Nat.lt_irrefl 0), fun hi => ?_, fun i hi => ?_⟩, fun k hk => ?_⟩
  · have := h.tj_lt hi; omega
  · rcases hi with hi | hi
    · exact h2.tj_lt hi
    · rw [hi]; simp
  · rcases hk with (hk | hk) | hk
    · exact hn k hk
    · exact .inr (hj k hk)
    · rw [hk]; exact .inr ho.1.size
set_option maxRecDepth 100000 in
set_option maxHeartbeats 4000000 in
theorem vopen_any {w : World} {p : Nat} {s2 : S} {mb : Option Nat} {L L2 : List Fi} {nx : Nat} {rs : List Re} {pk : List (List Int)} (hop : Calls Tryz.prog 26 #[.pointer (some ⟨p, 0, none⟩)] w fun e w' => Opened w w' p mb L s2 L2 nx rs e) (hsn : bok (bytL L2 ksnap)) (hpk : decL (bytL L2 ksnap) = pk) (hpl : pk.length ≤ 10000) :
    Calls Tryz.prog 9 #[.pointer (some ⟨p, 0, none⟩)] w fun e w' => VOpened w w' p mb L s2 L2 nx rs pk e := by
  have HOP := Lib.hid hop
  have HB := Lib.hid (And.intro hsn (And.intro hpk hpl))
  clear hop hsn hpk hpl
  obtain ⟨J, hJ⟩ : ∃ J, J = joE rs nx pk.length := ⟨_, rfl⟩
  have hJ2 : J = 0 ∨ J = 8 := by
    rw [hJ]; unfold joE
    split
    · exact .inl rfl
    · split
      · exact .inr rfl
      · exact .inl rfl
  have HJ := Lib.hid hJ
  clear hJ
  have hld : Hid (∀ (w1 : World) (j t : Nat) (sv : Value) (xs : List Xr) (mb1 : Option Nat) (L1 : List Fi), JSt w1 p s2 mb1 L1 j t true nx sv xs rs → Sr.Alike L2 L1 → Off (own p mb L) w w1 → (∀ i, own p mb1 L1 i → own p mb L i ∨ w.heap.size ≤ i) → (∀ i, oj j t sv i → w.heap.size ≤ i) →
      Calls Tryz.prog 27 #[.pointer (some ⟨w1.heap.size, 0, none⟩)] (w1.alloc (.cells #[.pointer (some ⟨p, 0, none⟩), .slice none 0 0, .pointer (some ⟨j, 0, none⟩), .int .i64 0, .bool true] 67)) fun e w2 => e = .returned (.tuple #[]) ∧ ∃ Z A c, VaX w2 Z p w1.heap.size s2 mb1 L1 j t true nx sv xs rs A pk.length c pk 0 true ∧ (∀ k, Z k → own p mb L k ∨ w.heap.size ≤ k) ∧ Off (own p mb L) w w2) := fun w1 j t sv xs mb1 L1 hj hal ho hn hn2 => by
    obtain ⟨h1, h2⟩ := vopen_new hj ho hn hn2
    have h3 := vload_any h1 (by rw [(hal ksnap).2]; exact HB.out.1)
    rw [(hal ksnap).2, HB.out.2.1] at h3
    refine Calls.mono h3 ?_
    rintro e w2 ⟨rfl, ⟨A, m, c, hv⟩, hoo⟩
    have hm := rowsT_len hv.row
    subst hm
    have hb := alloc_below w1 (vcells p none 0 0 j 0 true)
    refine ⟨rfl, _, A, c, hv, fun k hk => ?_, ?_⟩
    · rcases hk with hk | hk
      · exact h2 k hk
      · exact .inr (by have := hk.1; have := ho.1.size; have := hb.size; omega)
    · exact off_two (off_two ho (Off.of_below (fun _ => False) hb) (fun _ e => e) (fun _ e => e.elim)) hoo (fun _ e => e) (fun k e => .inr (by rw [e]; exact ho.1.size))
  rcases hJ2 with rfl | rfl
  · go_enter Tryz.func9, Tryz.ntmps9
    go_upto_region 6 with (first
      | (go_at_call 26; (with_reducible refine HOP.out.mono ?_); rintro e w1 ⟨j, t, sv, xs, mb1, L1, rfl, hj1, hal1, ho1, hn1, hn2⟩; have HLD := Lib.hid (hld.out w1 j t sv xs mb1 L1 hj1 hal1 ho1 hn1 hn2); have HAL := Lib.hid hal1; have HN := Lib.hid (And.intro hn1 hn2); clear hj1 hal1 ho1 hn1 hn2)
      | (go_at_call 27; (with_reducible refine HLD.out.mono ?_); rintro e w2 ⟨rfl, Z, A, c, hv2, hz2, ho2⟩; have HV2 := Lib.hid hv2; have HZ2 := Lib.hid hz2; have HO2 := Lib.hid ho2; have D5 := (five hv2.blk).1; clear hv2 hz2 ho2))
    have hjo := vjoin_any (HV2.out.below ((Below.refl _ _).drew)) pk.length (by have := HB.out.2.2; omega) (fun hr => Nat.ne_of_lt (fst_lt HV2.out.js hr))
    rw [← HJ.out] at hjo
    have HJO := Lib.hid hjo
    have D1 : w2.cell? ⟨w1.heap.size, 1, none⟩ = some (.slice A pk.length c) := D5.2.1
    clear hjo D5
    go_region_held3 (fun w' => w'.cell? ⟨w1.heap.size, 1, none⟩ = some (.slice A pk.length c))
      (first | (exact E1) | (exact D1) | go_keep)
      ((go_at_call 28; (with_reducible refine HJO.out.mono ?_); rintro e w3 ⟨rfl, hv3, ho3⟩; have E1 : w3.cell? ⟨w1.heap.size, 1, none⟩ = some (.slice A pk.length c) := (five hv3.blk).1.2.1; have HV3 := Lib.hid hv3; have HO3 := Lib.hid ho3; clear hv3 ho3))
    go_wp2
    go_ret2
    unfold VOpened
    rw [← HJ.out]
    refine ⟨off_two HO2.out (off_two (Off.of_below (fun _ => False) ((Below.refl _ _).drew)) HO3.out (T := fun i => i = w1.heap.size ∨ i = j) (fun _ e => e.elim) (fun _ e => .inl e)) (fun _ e => e) (fun i hi => ?_), .inl ⟨rfl, Z, _, j, t, sv, xs, mb1, L1, A, _, c, rfl, HV3.out, HAL.out, HZ2.out⟩⟩
    · rcases hi with hi | hi
      · exact HZ2.out i (by rw [hi]; exact HV2.out.zv)
      · exact HZ2.out i (by rw [hi]; exact HV2.out.zo _ (.inr (.inl rfl)))
    
  · go_enter Tryz.func9, Tryz.ntmps9
    go_upto_region 6 with (first
      | (go_at_call 26; (with_reducible refine HOP.out.mono ?_); rintro e w1 ⟨j, t, sv, xs, mb1, L1, rfl, hj1, hal1, ho1, hn1, hn2⟩; have HLD := Lib.hid (hld.out w1 j t sv xs mb1 L1 hj1 hal1 ho1 hn1 hn2); have HAL := Lib.hid hal1; have HN := Lib.hid (And.intro hn1 hn2); clear hj1 hal1 ho1 hn1 hn2)
      | (go_at_call 27; (with_reducible refine HLD.out.mono ?_); rintro e w2 ⟨rfl, Z, A, c, hv2, hz2, ho2⟩; have HV2 := Lib.hid hv2; have HZ2 := Lib.hid hz2; have HO2 := Lib.hid ho2; have D5 := (five hv2.blk).1; clear hv2 hz2 ho2))
    have hjo := vjoin_any (HV2.out.below ((Below.refl _ _).drew)) pk.length (by have := HB.out.2.2; omega) (fun hr => Nat.ne_of_lt (fst_lt HV2.out.js hr))
    rw [← HJ.out] at hjo
    have HJO := Lib.hid hjo
    have D1 : w2.cell? ⟨w1.heap.size, 1, none⟩ = some (.slice A pk.length c) := D5.2.1
    clear hjo D5
    go_region_held3 (fun w' => w'.cell? ⟨w1.heap.size, 1, none⟩ = some (.slice A pk.length c))
      (first | (exact E1) | (exact D1) | go_keep)
      ((go_at_call 28; (with_reducible refine HJO.out.mono ?_); rintro e w3 ⟨rfl, hv3, ho3⟩; have E1 : w3.cell? ⟨w1.heap.size, 1, none⟩ = some (.slice A pk.length c) := (five hv3.blk).1.2.1; have HV3 := Lib.hid hv3; have HO3 := Lib.hid ho3; clear hv3 ho3))
    go_wp2
    go_ret2
    unfold VOpened
    rw [← HJ.out]
    refine ⟨off_two HO2.out (off_two (Off.of_below (fun _ => False) ((Below.refl _ _).drew)) HO3.out (T := fun i => i = w1.heap.size ∨ i = j) (fun _ e => e.elim) (fun _ e => .inl e)) (fun _ e => e) (fun i hi => ?_), .inr ⟨rfl, mb1, L1, rfl, HV3.out.js.st, HAL.out, HN.out.1⟩⟩
    · rcases hi with hi | hi
      · exact HZ2.out i (by rw [hi]; exact HV2.out.zv)
      · exact HZ2.out i (by rw [hi]; exact HV2.out.zo _ (.inr (.inl rfl)))
    
end Go.Proofs.YtjijgoflbjbnfaaGreat.Vt

namespace Go.Proofs.YtjijgoflbjbnfaaGreat.Vt
open Go.RowKit Fr Sr Jo

/-- No other files but a vault's own two. -/
def Nms (L : List Fi) (b : Bool) : Prop := b = true → ∀ k, klog ≠ k → ksnap ≠ k → hasL L k = false
theorem Nms.alike {L L' : List Fi} {b : Bool} (h : Nms L b) (ha : Sr.Alike L L') : Nms L' b := fun hb k h1 h2 => (ha k).1.trans (h hb k h1 h2)
theorem nms_no (L : List Fi) : Nms L false := fun h => (by cases h)
/-- A vault that has the records ls: its store's cells s, its room R, at most lg bytes in the journal's file. -/
def VV (W : World) (Z : Nat → Prop) (p vb : Nat) (s : S) (R : Int) (ls : List (List Int)) (sd : Bool) (lg : Nat) (im : Bool × Nat) : Prop :=
  ∃ mb L j t jn nx sv xs rs A m c pk, VaX W Z p vb s mb L j t jn nx sv xs rs A m c pk pk.length sd ∧ Inv pk rs nx ls ∧ Fil L rs pk ∧ s.room = R ∧ (bytL L klog).length ≤ lg ∧ (sd = true → jn = true ∧ s.d = false ∧ Cl L rs) ∧ Nms L im.1 ∧ pk.length = im.2
theorem VV.zl {W : World} {Z : Nat → Prop} {p vb : Nat} {s : S} {R : Int} {ls : List (List Int)} {sd : Bool} {lg : Nat} {im : Bool × Nat} (h : VV W Z p vb s R ls sd lg im) : ∀ i, Z i → i < W.heap.size := by
  obtain ⟨mb, L, j, t, jn, nx, sv, xs, rs, A, m, c, pk, hv, _⟩ := h
  exact hv.zl
theorem VV.below {W W' : World} {Z : Nat → Prop} {p vb : Nat} {s : S} {R : Int} {ls : List (List Int)} {sd : Bool} {lg : Nat} {im : Bool × Nat} (h : VV W Z p vb s R ls sd lg im) (hb : Below W.heap.size W W') : VV W' Z p vb s R ls sd lg im := by
  obtain ⟨mb, L, j, t, jn, nx, sv, xs, rs, A, m, c, pk, hv, h1⟩ := h
  exact ⟨mb, L, j, t, jn, nx, sv, xs, rs, A, m, c, pk, hv.below hb, h1⟩
theorem VV.off {W W' : World} {T Z : Nat → Prop} {p vb : Nat} {s : S} {R : Int} {ls : List (List Int)} {sd : Bool} {lg : Nat} {im : Bool × Nat} (h : VV W Z p vb s R ls sd lg im) (ho : Off T W W') (hZ : ∀ k, Z k → ¬ T k) (hn : NoB W T) : VV W' Z p vb s R ls sd lg im := by
  obtain ⟨mb, L, j, t, jn, nx, sv, xs, rs, A, m, c, pk, hv, h1⟩ := h
  exact ⟨mb, L, j, t, jn, nx, sv, xs, rs, A, m, c, pk, hv.off ho hZ hn, h1⟩
theorem VV.bl {W : World} {Z : Nat → Prop} {p vb : Nat} {s : S} {R : Int} {ls : List (List Int)} {sd : Bool} {lg : Nat} {im : Bool × Nat} (h : VV W Z p vb s R ls sd lg im) : (∀ l ∈ ls, Small l) ∧ ls.length ≤ 99 ∧ 0 ≤ s.used ∧ s.used ≤ R ∧ s.room = R := by
  obtain ⟨mb, L, j, t, jn, nx, sv, xs, rs, A, m, c, pk, hv, h1, h2, h3, _⟩ := h
  have h4 := hv.js.st.used
  have h5 := hv.js.st.room
  exact ⟨h1.bl, by rw [h1.len]; exact h1.few, by omega, by omega, h3⟩
theorem bn (P : Prop) [Decidable P] {α : Type} {a b c : α} (h : ¬ P) (e : b = c) : (if P then a else b) = c := by rw [if_neg h, e]
section
variable {W : World} {Z : Nat → Prop} {p vb lg : Nat} {im : Bool × Nat} {s : S} {R : Int} {ls : List (List Int)} {sd : Bool}
theorem vv_add (h : VV W Z p vb s R ls true lg im) {A1 : Option Addr} {n1 c1 : Nat} {l : List Int} (hb : BAt W (.slice A1 n1 c1) l) (hs : Small l) (hfr : BK (fun k => ¬ Z k) (.slice A1 n1 c1) l) (hx : ls.length < 99) :
    Calls Tryz.prog 10 #[.pointer (some ⟨vb, 0, none⟩), .slice A1 n1 c1] W fun e W' => Off Z W W' ∧ ∃ E s', e = .returned (.int .i64 E) ∧ s'.used ≤ s.used + (9 + l.length) ∧
      ((E = 0 ∧ VV W' (Zn Z W W') p vb s' R (ls ++ [l]) true (lg + (9 + l.length)) im ∧ s'.a = s.a) ∨ (E = 14 ∧ s.a = true ∧ VV W' (Zn Z W W') p vb s' R ls false (lg + (9 + l.length)) im) ∨ (E = 7 ∧ R < s.used + (9 + l.length) ∧ s' = s ∧ VV W' (Zn Z W W') p vb s' R ls true lg im)) := by
  obtain ⟨mb, L, j, t, jn, nx, sv, xs, rs, A, m, c, pk, hv, hi, hf, hR, hlg, hsd, hnm, hq⟩ := h
  obtain ⟨rfl, hd, hc⟩ := hsd rfl
  have hlen := hi.len
  have hfew := hi.few
  have hl9 := hs.2
  have hn1 := hb.len.1
  have hrl := small_recF (nx := nx) (l := l) (by omega)
  have hrsl : rs.length < 900 := by
    obtain ⟨a, _, h2, _⟩ := hi.sq
    omega
  have ha := add_c (nx := nx) (l := l) (L := L) (rs := rs) hd hv.js.st.left hc ⟨by omega, by omega⟩ hs.1
  have hcall := vadd_any hv hb hs.1 hfr (by omega) (by omega) hrsl rfl
  obtain ⟨E, hE⟩ : ∃ E, E = appE s klog (recF nx l).length := ⟨_, rfl⟩
  obtain ⟨s', hs'⟩ : ∃ s', s' = appS s klog (recF nx l).length := ⟨_, rfl⟩
  obtain ⟨L', hL'⟩ : ∃ L', L' = appL s L klog (recF nx l) := ⟨_, rfl⟩
  rw [← hE, ← hs', ← hL', hrl] at ha
  rw [← hE, ← hs', ← hL'] at hcall
  refine hcall.mono ?_
  rintro e W' ⟨rfl, ⟨mb2, L2, sv2, xs2, hv2, hal⟩, ho⟩
  refine ⟨ho, E, s', rfl, ?_⟩
  rcases ha with ⟨hE7, hs7, hL7, hr7⟩ | ⟨hro, hoth, hlgn, hus, hcs⟩
  · subst hs7
    rw [hE7] at hv2
    rw [hL7] at hal
    refine ⟨by omega, .inr (.inr ⟨hE7, by rw [← hR]; exact_mod_cast hr7, rfl, mb2, L2, j, t, _, nx, sv2, xs2, rs, A, m, c, pk, hv2, hi, hf.alike hal, hR, by rw [(hal klog).2]; exact hlg, fun _ => ⟨rfl, hd, hc.alike hal⟩, hnm.alike hal, hq⟩)⟩
  · have hsn : bytL L' ksnap = bytL L ksnap := (hoth ksnap klog_snap).1
    have hnm' : Nms L' im.1 := fun hb k h1 h2 => (hoth k h1).2.trans (hnm hb k h1 h2)
    have hlg2 : (bytL L2 klog).length ≤ lg + (9 + l.length) := by rw [(hal klog).2]; omega
    refine ⟨by have := hus; push_cast at this; omega, ?_⟩
    rcases hcs with ⟨h14, hsa, hhas⟩ | ⟨h0, hcl, hd2, ha2⟩
    · rw [h14] at hv2
      exact .inr (.inl ⟨h14, hsa, mb2, L2, j, t, _, nx, sv2, xs2, rs, A, m, c, pk, hv2, hi, (Fil.mk hhas (by rw [hsn]; exact hf.dec) (by rw [hsn]; exact hf.bok)).alike hal, hro.trans hR, hlg2, fun h => (by cases h), hnm'.alike hal, hq⟩)
    · rw [h0] at hv2
      exact .inl ⟨h0, ⟨mb2, L2, j, t, _, nx + 1, sv2, xs2, rs ++ [(nx, l)], A, m, c, pk, hv2, hi.add hs (by omega), (Fil.mk hcl.has (by rw [hsn]; exact hf.dec) (by rw [hsn]; exact hf.bok)).alike hal, hro.trans hR, hlg2, fun _ => ⟨rfl, hd2, hcl.alike hal⟩, hnm'.alike hal, hq⟩, ha2⟩
theorem sv_g (s : S) (L : List Fi) (bs : List Int) : GC Sp.knew ksnap s L bs (gE Sp.knew ksnap s L bs) (gS Sp.knew ksnap s L bs) (gL Sp.knew ksnap s L bs) → GC Sp.knew ksnap s L bs (Sp.svE s L bs) (Sp.svS s L bs) (Sp.svL s L bs) := id
theorem rp_g (s : S) (L : List Fi) (bs : List Int) : GC Jo.knew klog s L bs (gE Jo.knew klog s L bs) (gS Jo.knew klog s L bs) (gL Jo.knew klog s L bs) → GC Jo.knew klog s L bs (rpE s L bs) (rpS s L bs) (rpL s L bs) := id
theorem keys_rp {s : S} {L : List Fi} (bs : List Int) (h : KeysL L) : KeysL (rpL s L bs) := by
  unfold rpL
  split
  · unfold renL
    split
    · exact keys_put (keys_del (Jo.keys_wri _ _ h) _) _ _
    · exact Jo.keys_wri _ _ h
  · exact Jo.keys_wri _ _ h
theorem vv_pack (h : VV W Z p vb s R ls true lg im) :
    Calls Tryz.prog 12 #[.pointer (some ⟨vb, 0, none⟩)] W fun e W' => Off Z W W' ∧ ∃ E s', e = .returned (.int .i64 E) ∧ s'.used ≤ s.used + (18 + 70 * ls.length) ∧
      ((E = 0 ∧ VV W' (Zn Z W W') p vb s' R ls true lg (im.1, ls.length) ∧ s'.a = s.a) ∨ (E = 14 ∧ s.a = true ∧ ∃ im', VV W' (Zn Z W W') p vb s' R ls false lg im') ∨ (E = 7 ∧ R < s.used + (18 + 70 * ls.length) ∧ ∃ im', VV W' (Zn Z W W') p vb s' R ls true lg im')) := by
  obtain ⟨mb, L, j, t, jn, nx, sv, xs, rs, A, m, c, pk, hv, hi, hf, hR, hlg, hsd, hnm, hq⟩ := h
  obtain ⟨rfl, hd, hc⟩ := hsd rfl
  have hlen := hi.len
  have hfew := hi.few
  obtain ⟨hto, hfit⟩ := small_tot hi.bl (by omega)
  have hkey := hi.key
  rw [← pl_vals hv.js.jr.vals] at hkey
  have hcall := vpack_any hv rfl hkey (fun r hr => ⟨by have := (hi.br r hr).2; omega, (hi.br r hr).1⟩) (fun b hb => ⟨by have := (hi.bp b hb).2; omega, (hi.bp b hb).1⟩) hlen (by omega) hfit (by omega)
  have hbl := Sp.encS_len ls
  have hde := (Sp.dec_enc ls hfit).2
  have hbk : bok (Sp.encS ls) := Sp.enc_bok (fun l hl => ⟨(hi.bl l hl).1, by have := (hi.bl l hl).2; omega⟩) (by omega)
  obtain ⟨bs, hbs⟩ : ∃ bs, bs = Sp.encS ls := ⟨_, rfl⟩
  rw [← hbs] at hcall hbl hde hbk
  have hg := sv_g s L bs (g_c hd hv.js.st.left hv.js.st.keys (by decide) (by decide) (by decide))
  have hks := keys_sv (s := s) bs hv.js.st.keys
  have hus0 := hv.js.st.used
  unfold paE paS paL at hcall
  obtain ⟨E1, hE1⟩ : ∃ E1, E1 = Sp.svE s L bs := ⟨_, rfl⟩
  obtain ⟨s1, hs1⟩ : ∃ s1, s1 = Sp.svS s L bs := ⟨_, rfl⟩
  obtain ⟨L1, hL1⟩ : ∃ L1, L1 = Sp.svL s L bs := ⟨_, rfl⟩
  rw [← hE1, ← hs1, ← hL1] at hcall hg
  rw [← hL1] at hks
  rcases hg with ⟨hE7, hs7, hL7, hr7⟩ | ⟨hro, hus, ⟨h14, hsa, hoth⟩ | ⟨h0, hu1, hd1, hlo1, ha1, hb1, hh1, hk1, hoth⟩⟩
  · rw [hE7, hs7, hL7] at hcall
    simp only [show ¬ ((7 : Int) = 0) by decide, if_false, sndE, show ¬ ((7 : Int) = 14) by decide] at hcall
    refine hcall.mono ?_
    rintro e W' ⟨rfl, ⟨mb2, L2, t2, sv2, xs2, A2, m2, c2, hv2, hal⟩, ho⟩
    exact ⟨ho, 7, s, rfl, by omega, .inr (.inr ⟨rfl, by omega, (false, pk.length), mb2, L2, j, t2, _, nx, sv2, xs2, rs, A2, m2, c2, pk, hv2, hi, hf.alike hal, hR, by rw [(hal klog).2]; exact hlg, fun _ => ⟨rfl, hd, hc.alike hal⟩, nms_no _, rfl⟩)⟩
  · rw [h14] at hcall
    simp only [show ¬ ((14 : Int) = 0) by decide, if_false, sndE, if_true] at hcall
    refine hcall.mono ?_
    rintro e W' ⟨rfl, ⟨mb2, L2, t2, sv2, xs2, A2, m2, c2, hv2, hal⟩, ho⟩
    have hu2 := hv2.js.st.used
    have hf1 : Fil L1 rs pk := by
      obtain ⟨q, q1, q2, q3, q4⟩ := hf.has
      have e1 := hoth klog (by decide)
      have e2 := hoth ksnap (by decide)
      exact ⟨⟨q, q1, by rw [e1.1]; exact q2, q3, by rw [e1.1, e1.2]; exact q4⟩, by rw [e2.1]; exact hf.dec, by rw [e2.1]; exact hf.bok⟩
    have hlg1 : (bytL L1 klog).length ≤ lg := by rw [(hoth klog (by decide)).1]; exact hlg
    have hu3 : usedL L2 = usedL L1 := (same_used hks hv2.js.st.keys hal)
    exact ⟨ho, 14, s1, rfl, by omega, .inr (.inl ⟨rfl, hsa, (false, pk.length), mb2, L2, j, t2, _, nx, sv2, xs2, rs, A2, m2, c2, pk, hv2, hi, hf1.alike hal, hro.trans hR, by rw [(hal klog).2]; exact hlg1, fun h => (by cases h), nms_no _, rfl⟩)⟩
  · have e1 := hoth klog (by decide) (by decide)
    have hc1 : Cl L1 rs := ⟨by rw [e1.1]; exact hc.1, by rw [e1.1, e1.2]; exact hc.2⟩
    have hf1 : Fil L1 rs ls := ⟨hc1.has, by rw [hb1]; exact hde, by rw [hb1]; exact hbk⟩
    have hlg1 : (bytL L1 klog).length ≤ lg := by rw [e1.1]; exact hlg
    have hg2 := rp_g s1 L1 [] (g_c hd1 hlo1 hks (by decide) (by decide) (by decide))
    rw [h0] at hcall
    simp only [if_true] at hcall
    obtain ⟨E2, hE2⟩ : ∃ E2, E2 = rpE s1 L1 [] := ⟨_, rfl⟩
    obtain ⟨s2, hs2⟩ : ∃ s2, s2 = rpS s1 L1 [] := ⟨_, rfl⟩
    obtain ⟨L3, hL3⟩ : ∃ L3, L3 = rpL s1 L1 [] := ⟨_, rfl⟩
    rw [← hE2, ← hs2, ← hL3] at hcall hg2
    rcases hg2 with ⟨hE7, hs7, hL7, hr7⟩ | ⟨hro2, hus2, ⟨h14, hsa, hoth2⟩ | ⟨h02, hu12, hd12, hlo12, ha12, hb12, hh12, hk12, hoth2⟩⟩
    · rw [hE7, hs7, hL7] at hcall
      simp only [show ¬ ((7 : Int) = 0) by decide, if_false, sndE, show ¬ ((7 : Int) = 14) by decide] at hcall
      refine hcall.mono ?_
      rintro e W' ⟨rfl, ⟨mb2, L2, t2, sv2, xs2, A2, m2, c2, hv2, hal⟩, ho⟩
      have h9 : ([] : List Int).length = 0 := rfl
      rw [h9] at hr7
      exact ⟨ho, 7, s1, rfl, by omega, .inr (.inr ⟨rfl, by omega, (false, ls.length), mb2, L2, j, t2, _, nx, sv2, xs2, rs, A2, m2, c2, ls, hv2, hi.pack, hf1.alike hal, hro.trans hR, by rw [(hal klog).2]; exact hlg1, fun _ => ⟨rfl, hd1, hc1.alike hal⟩, nms_no _, rfl⟩)⟩
    · rw [h14] at hcall
      simp only [show ¬ ((14 : Int) = 0) by decide, if_false, sndE, if_true] at hcall
      refine hcall.mono ?_
      rintro e W' ⟨rfl, ⟨mb2, L2, t2, sv2, xs2, A2, m2, c2, hv2, hal⟩, ho⟩
      have hu2 := hv2.js.st.used
      have hk3 : KeysL L3 := by rw [hL3]; exact keys_rp [] hks
      have hu3 : usedL L2 = usedL L3 := (same_used hk3 hv2.js.st.keys hal)
      have e3 := hoth2 klog (by decide)
      have e4 := hoth2 ksnap (by decide)
      have hf3 : Fil L3 rs ls := ⟨Cl.has ⟨by rw [e3.1]; exact hc1.1, by rw [e3.1, e3.2]; exact hc1.2⟩, by rw [e4.1]; exact hf1.dec, by rw [e4.1]; exact hf1.bok⟩
      have h9 : ([] : List Int).length = 0 := rfl
      rw [h9] at hus2
      exact ⟨ho, 14, s2, rfl, by omega, .inr (.inl ⟨rfl, by rw [← ha1]; exact hsa, (false, ls.length), mb2, L2, j, t2, _, nx, sv2, xs2, rs, A2, m2, c2, ls, hv2, hi.pack, hf3.alike hal, hro2.trans (hro.trans hR), by rw [(hal klog).2, e3.1]; exact hlg1, fun h => (by cases h), nms_no _, rfl⟩)⟩
    · rw [h02] at hcall
      simp only [if_true, sndE, show ¬ ((0 : Int) = 14) by decide, if_false] at hcall
      refine hcall.mono ?_
      rintro e W' ⟨rfl, ⟨mb2, L2, t2, sv2, xs2, A2, m2, c2, hv2, hal⟩, ho⟩
      have hu2 := hv2.js.st.used
      have hk3 : KeysL L3 := by rw [hL3]; exact keys_rp [] hks
      have hu3 : usedL L2 = usedL L3 := (same_used hk3 hv2.js.st.keys hal)
      have e4 := hoth2 ksnap (by decide) (by decide)
      have hnm3 : Nms L3 im.1 := fun hb k h1 h2 => by
        by_cases q1 : Jo.knew = k
        · rw [← q1]; exact hk12
        · rw [(hoth2 k q1 h1).2]
          by_cases q2 : Sp.knew = k
          · rw [← q2]; exact hk1
          · rw [(hoth k q2 h2).2]; exact hnm hb k h1 h2
      have hc3 : Cl L3 [] := ⟨by rw [hb12]; rfl, fun _ => hh12⟩
      have hf3 : Fil L3 [] ls := ⟨hc3.has, by rw [e4.1]; exact hf1.dec, by rw [e4.1]; exact hf1.bok⟩
      have h9 : ([] : List Int).length = 0 := rfl
      rw [h9] at hus2
      exact ⟨ho, 0, s2, rfl, by omega, .inl ⟨rfl, ⟨mb2, L2, j, t2, _, nx, sv2, xs2, [], A2, m2, c2, ls, hv2, hi.packed, hf3.alike hal, hro2.trans (hro.trans hR), by rw [(hal klog).2, hb12]; exact Nat.zero_le _, fun _ => ⟨rfl, hd12, hc3.alike hal⟩, hnm3.alike hal, rfl⟩, ha12.trans ha1⟩⟩
end
end Go.Proofs.YtjijgoflbjbnfaaGreat.Vt

namespace Go.Proofs.YtjijgoflbjbnfaaGreat.Vt
open Go.RowKit Fr Sr Jo

/-- A store with the files of a vault whose records are ls. -/
def SF (W : World) (Zs : Nat → Prop) (p : Nat) (s : S) (R : Int) (ls : List (List Int)) (lg : Nat) (im : Bool × Nat) : Prop :=
  ∃ mb L rs pk nx, StR W p s mb L ∧ (∀ k, own p mb L k → Zs k) ∧ Inv pk rs nx ls ∧ Fil L rs pk ∧ s.room = R ∧ (bytL L klog).length ≤ lg ∧ (∀ k, Zs k → k < W.heap.size) ∧ Nms L im.1 ∧ pk.length = im.2
theorem fil_nil : Fil [] [] [] := ⟨⟨[], nxE_nil, rfl, fun x hx => (by cases hx), fun h => absurd h (Nat.lt_irrefl 0)⟩, by decide, fun x hx => (by cases hx)⟩
theorem inv_nil : Inv [] [] 0 [] := ⟨⟨0, trivial, rfl, Nat.le_refl _, rfl⟩, Nat.le_refl _, fun _ h => (by cases h), fun _ h => (by cases h), by decide⟩
/-- A new store. -/
theorem sf_new {w W : World} {R : Int} (hs : StR W w.heap.size ⟨false, 0, false, R, 0⟩ none []) (hlt : w.heap.size < W.heap.size) : SF W (fun k => k = w.heap.size) w.heap.size ⟨false, 0, false, R, 0⟩ R [] 0 (true, 0) :=
  have ho : ∀ k, own w.heap.size none [] k → k = w.heap.size := fun k hk => by
    rcases hk with hk | hk | ⟨x, hx, _⟩
    · exact hk
    · cases hk
    · cases hx
  ⟨none, [], [], [], 0, hs, ho, inv_nil, fil_nil, rfl, Nat.le_refl _, fun k hk => (by rw [hk]; exact hlt), fun _ _ _ _ => rfl, rfl⟩
section
variable {W : World} {Z Zs : Nat → Prop} {p vb lg : Nat} {im : Bool × Nat} {s : S} {R : Int} {ls : List (List Int)} {sd : Bool}
theorem vv_rev (h : VV W Z p vb s R ls sd lg im) : Calls Tryz.prog 14 #[.pointer (some ⟨p, 0, none⟩)] W fun e W' => e = .returned (.tuple #[]) ∧ Off Z W W' ∧ SF W' (Zn Z W W') p { s with a := false, n := 0, d := false } R ls lg im := by
  obtain ⟨mb, L, j, t, jn, nx, sv, xs, rs, A, m, c, pk, hv, hi, hf, hR, hlg, hsd, hnm, hq⟩ := h
  refine (Revive_any W p s mb L hv.js.st).mono ?_
  rintro e W' ⟨rfl, hm⟩
  exact ⟨rfl, hm.off.mono fun i hi => hv.zo i (.inl hi), mb, L, rs, pk, nx, hm.st, fun k hk => .inl (hv.zo k (.inl hk)), hi, hf, hR, hlg, zn_lt hv.zl hm.off.1.size, hnm, hq⟩
theorem vv_arm (h : VV W Z p vb s R ls sd lg im) {n : Int} (hn : n ≤ 9223372036854775807) : Calls Tryz.prog 13 #[.pointer (some ⟨p, 0, none⟩), .int .i64 n] W fun e W' => e = .returned (.tuple #[]) ∧ Off Z W W' ∧ VV W' (Zn Z W W') p vb (armS s n) R ls sd lg im := by
  obtain ⟨mb, L, j, t, jn, nx, sv, xs, rs, A, m, c, pk, hv, hi, hf, hR, hlg, hsd, hnm, hq⟩ := h
  refine (Arm_any W p s mb L n hv.js.st hn).mono ?_
  rintro e W' ⟨rfl, hm⟩
  exact ⟨rfl, hm.off.mono fun i hi => hv.zo i (.inl hi), mb, L, j, t, jn, nx, sv, xs, rs, A, m, c, pk, hv.store hm, hi, hf, hR, hlg, hsd, hnm, hq⟩
/-- The files that Open leaves. -/
theorem open_c {mb : Option Nat} {L : List Fi} {rs : List Re} {pk : List (List Int)} {nx : Nat} (h : StR W p s mb L) (ha : s.a = false) (hd : s.d = false) (hi : Inv pk rs nx ls) (hf : Fil L rs pk) (hl : (bytL L klog).length ≤ 800) :
    ∃ s2 L2, (Calls Tryz.prog 26 #[.pointer (some ⟨p, 0, none⟩)] W fun e w' => Opened W w' p mb L s2 L2 (nxt (cks 0 rs)) rs e) ∧ Cl L2 rs ∧ Fil L2 rs pk ∧ s2.a = false ∧ s2.d = false ∧ s2.room = s.room ∧ s2.used ≤ s.used ∧ (bytL L2 klog).length ≤ (bytL L klog).length ∧ ∀ k, klog ≠ k → hasL L2 k = hasL L k := by
  obtain ⟨q, h1, h2, h3, h4⟩ := hf.has
  obtain ⟨a, hsq, _⟩ := hi.sq
  have hbd := hi.bnd
  have hc : cnt (bytL L klog) = cks 0 rs := by rw [h2]; exact cnt_frames h1 rs a hsq hbd
  have hok : bok (bytL L klog) := by rw [h2]; exact bok_app (frs_bok hbd fun r hr => (hi.br r hr).1) h3
  have hw : whole (cnt (bytL L klog)) = (frs rs).flatten.length := by rw [hc, whole_frames]
  have e1 : 0 < (bytL L klog).length → fnd s.d L klog [klog] = 0 := fun hlt => by
    unfold fnd
    rw [hd, okLog, if_neg (by decide), h4 hlt]
    rfl
  have e3 : useS s 1 = s := by unfold useS; rw [ha]; rfl
  have e4 : useN s 1 = 1 := by unfold useN; rw [if_neg (fun h => by rw [ha] at h; cases h.1)]
  have e2 : ¬ ((whole (cnt (bytL L klog)) : Int) < 0 ∨ ((bytL L klog).length : Int) < (whole (cnt (bytL L klog)) : Int)) := by
    rw [hw, h2, List.length_append]; omega
  have hcE : whole (cnt (bytL L klog)) < (bytL L klog).length → cutE s L klog (whole (cnt (bytL L klog)) : Int) = 0 := fun hlt => by
    unfold cutE
    rw [e1 (by omega), if_neg (by decide), if_neg e2, e3]
    exact dwn_f hd
  have ho := open_ok h hd hl hok hcE
  rw [hc, recs_cks, ← hc] at ho
  by_cases hlt : whole (cnt (bytL L klog)) < (bytL L klog).length
  · rw [if_pos hlt, if_pos hlt] at ho
    have hB : cutB s L klog (whole (cnt (bytL L klog)) : Int) := ⟨e1 (by omega), e2⟩
    have hS : cutS s L klog (whole (cnt (bytL L klog)) : Int) = { s with used := s.used + ((whole (cnt (bytL L klog)) : Int) - ((bytL L klog).length : Int)) } := by
      unfold cutS; rw [if_pos hB, if_pos e4, e3]
    have hL : cutL s L klog (whole (cnt (bytL L klog)) : Int) = putL L klog (dv, (frs rs).flatten) := by
      unfold cutL
      rw [if_pos hB, if_pos e4, hw]
      congr 2
      rw [h2]; simp
    rw [hS, hL] at ho
    have hcl : Cl (putL L klog (dv, (frs rs).flatten)) rs := Cl.put L dv rfl
    have hsn : bytL (putL L klog (dv, (frs rs).flatten)) ksnap = bytL L ksnap := by rw [byt_put, if_neg klog_snap]
    rw [hc] at ho
    refine ⟨_, _, ho, hcl, ⟨hcl.has, by rw [hsn]; exact hf.dec, by rw [hsn]; exact hf.bok⟩, ha, hd, rfl, ?_, ?_, fun k hk => by rw [has_put, if_neg hk]⟩
    · show s.used + ((whole (cks 0 rs) : Int) - ((bytL L klog).length : Int)) ≤ s.used
      rw [hc] at hlt; omega
    · rw [hcl.1, h2, List.length_append]; omega
  · rw [if_neg hlt, if_neg hlt] at ho
    have hq : q = [] := by
      rw [hw, h2, List.length_append] at hlt
      exact List.length_eq_zero_iff.1 (by omega)
    have hcl : Cl L rs := ⟨by rw [h2, hq, List.append_nil], h4⟩
    rw [hc] at ho
    exact ⟨_, _, ho, hcl, hf, ha, hd, rfl, Int.le_refl _, Nat.le_refl _, fun _ _ => rfl⟩
theorem vv_open (h : SF W Zs p s R ls lg im) (ha : s.a = false) (hd : s.d = false) (hl : R ≤ 800 ∨ lg ≤ 800) :
    Calls Tryz.prog 9 #[.pointer (some ⟨p, 0, none⟩)] W fun e W' => Off Zs W W' ∧ ∃ vb Z' s', e = .returned (.tuple #[.pointer (some ⟨vb, 0, none⟩), .int .i64 0]) ∧ VV W' Z' p vb s' R ls true lg im ∧ (∀ k, Z' k → Zs k ∨ W.heap.size ≤ k) ∧ s'.a = false ∧ s'.used ≤ s.used := by
  obtain ⟨mb, L, rs, pk, nx, hst, hz, hi, hf, hR, hlg, hzl, hnm, hq⟩ := h
  have hl8 : (bytL L klog).length ≤ 800 := by
    have h1 := byt_used L klog
    have h2 := hst.room
    rcases hl with h3 | h3
    · omega
    · omega
  obtain ⟨s2, L2, hop, hcl, hf2, ha2, hd2, hr2, hu2, hlg2, hns2⟩ := open_c hst ha hd hi hf hl8
  have hpl : pk.length ≤ 10000 := by have := hi.le; have := hi.few; omega
  obtain ⟨j1, j2⟩ := hi.join 0
  have hjo : joE rs (nxt (cks 0 rs)) pk.length = 0 := by
    unfold joE
    by_cases hrs : rs = []
    · rw [if_pos hrs]
    · rw [if_neg hrs]
      obtain ⟨k1, k2⟩ := j2 hrs
      cases rs with
      | nil => exact absurd rfl hrs
      | cons r t =>
        have k3 := k2 r t rfl
        have k4 := hi.le
        refine if_neg (fun h => ?_)
        rcases h with h | h
        · have h : pk.length < r.1 := h
          omega
        · rw [k1] at h; omega
  have hnx : (if rs = [] then pk.length else nxt (cks 0 rs)) = nx := by
    by_cases hrs : rs = []
    · rw [if_pos hrs]; exact j1 hrs
    · rw [if_neg hrs]; exact (j2 hrs).1
  refine (vopen_any hop hf2.bok hf2.dec hpl).mono ?_
  rintro e W' ⟨ho, h⟩
  refine ⟨ho.mono hz, ?_⟩
  rcases h with ⟨_, Z', vb, j, t, sv, xs, mb', L', A, m, c, rfl, hv, hal, hzz⟩ | ⟨h8, _⟩
  · rw [hnx] at hv
    exact ⟨vb, Z', s2, rfl, ⟨mb', L', j, t, true, nx, sv, xs, rs, A, m, c, pk, hv, hi, hf2.alike hal, hr2.trans hR, by rw [(hal klog).2]; omega, fun _ => ⟨rfl, hd2, hcl.alike hal⟩, Nms.alike (fun hb k h1 h2 => (hns2 k h1).trans (hnm hb k h1 h2)) hal, hq⟩, fun k hk => (hzz k hk).imp (hz k) id, ha2, hu2⟩
  · rw [hjo] at h8; cases h8
theorem vv_all (h : VV W Z p vb s R ls sd lg im) : Calls Tryz.prog 16 #[.pointer (some ⟨vb, 0, none⟩)] W fun e W' => ∃ v, e = .returned v ∧ RowsO W' W.heap.size (fun _ => False) v ls ∧ Below W.heap.size W W' := by
  obtain ⟨mb, L, j, t, jn, nx, sv, xs, rs, A, m, c, pk, hv, hi, hf, hR, hlg, hsd, hnm, hq⟩ := h
  have hkey := hi.key
  rw [← pl_vals hv.js.jr.vals] at hkey
  have hle := hi.le
  have hfew := hi.few
  obtain ⟨a, _, h2, _⟩ := hi.sq
  have h1 := vall_any hv (fun r hr => by have := (hi.br r hr).2; omega) (fun b hb => by have := (hi.bp b hb).2; omega) (by omega) rfl (by rw [List.length_map, List.length_drop]; omega)
  rw [hkey] at h1
  exact h1
theorem vv_len (h : VV W Z p vb s R ls sd lg im) : Calls Tryz.prog 20 #[.pointer (some ⟨vb, 0, none⟩)] W fun e W' => e = .returned (.int .i64 (ls.length : Int)) ∧ W = W' := by
  obtain ⟨mb, L, j, t, jn, nx, sv, xs, rs, A, m, c, pk, hv, hi, hf, hR, hlg, hsd, hnm, hq⟩ := h
  rw [hi.len]
  exact vlen_any hv
theorem vv_sound (h : VV W Z p vb s R ls sd lg im) : Calls Tryz.prog 19 #[.pointer (some ⟨vb, 0, none⟩)] W fun e W' => e = .returned (.bool sd) ∧ W = W' := by
  obtain ⟨mb, L, j, t, jn, nx, sv, xs, rs, A, m, c, pk, hv, _⟩ := h
  exact vsound_any hv
theorem vv_used (h : VV W Z p vb s R ls sd lg im) : Calls Tryz.prog 21 #[.pointer (some ⟨p, 0, none⟩)] W fun e W' => e = .returned (.int .i64 s.used) ∧ W = W' := by
  obtain ⟨mb, L, j, t, jn, nx, sv, xs, rs, A, m, c, pk, hv, _⟩ := h
  exact used_own W p s mb hv.js.st.blk
theorem vv_addno (h : VV W Z p vb s R ls false lg im) (v : Value) : Calls Tryz.prog 10 #[.pointer (some ⟨vb, 0, none⟩), v] W fun e W' => e = .returned (.int .i64 10) ∧ W = W' := by
  obtain ⟨mb, L, j, t, jn, nx, sv, xs, rs, A, m, c, pk, hv, _⟩ := h
  exact vadd_no hv v
theorem vv_packno (h : VV W Z p vb s R ls false lg im) : Calls Tryz.prog 12 #[.pointer (some ⟨vb, 0, none⟩)] W fun e W' => e = .returned (.int .i64 10) ∧ W = W' := by
  obtain ⟨mb, L, j, t, jn, nx, sv, xs, rs, A, m, c, pk, hv, _⟩ := h
  exact vpack_no hv
end
end Go.Proofs.YtjijgoflbjbnfaaGreat.Vt

namespace Go.Proofs.YtjijgoflbjbnfaaGreat.Sp
open Go.RowKit Fr
attribute [local go_sem] Oper.semAt_some

theorem step_app_run {P : Program} (w : World) {ops : Array Oper} {o : Oper} {a : Act} {K : Act → World → Prop} {Q : Exit → Act → World → Prop} {E : Prop} (hgd : o.guard = none) (s x : Operand) (t tn : TypeId)
    (ho : o.op = .call { callee := .builtin .append, args := #[s, x], argTypes := #[t, tn] }) (vs vx : Value) (hs : a.eval s = vs) (hx : a.eval x = vx)
    (v' : Value) (w' : World) (hr : (Builtin.append_ #[t, tn] o.type #[vs, vx]).run P w = .ok v' w') (h : K (a.put o.dst v') w') :
    if Region.wanted o (yielded ops a.tmps) = true then Oper.wp P o a w K Q else E := by
  have hw : Region.wanted o (yielded ops a.tmps) = true := by simp [Region.wanted, hgd]
  rw [if_pos hw]
  exact Lib.wp_append_run w s x t tn ho vs vx hs hx v' w' hr h
theorem step_min {P : Program} (w : World) {ops : Array Oper} {o : Oper} {a : Act} {K : Act → World → Prop} {Q : Exit → Act → World → Prop} {E : Prop} (hgd : o.guard = none) (s : Operand) (t tn : TypeId) (x m q : Int)
    (ho : o.op = .call { callee := .builtin .min, args := #[s, .const (.int .i64 m)], argTypes := #[t, tn] }) (hs : a.eval s = .int .i64 x) (hq : (if m < x then m else x) = q) (h : K (a.put o.dst (.int .i64 q)) w) :
    if Region.wanted o (yielded ops a.tmps) = true then Oper.wp P o a w K Q else E := by
  have hw : Region.wanted o (yielded ops a.tmps) = true := by simp [Region.wanted, hgd]
  have hr : (execOp a.eval o).run P w = .ok (.value (.int .i64 q)) w := by
    have hm : a.eval (.const (.int .i64 m)) = .int .i64 m := rfl
    simp [execOp, ho, resolve, invoke, builtin, hs, hm, run_min_int2, Result.andThen, hq]
  rw [if_pos hw]
  unfold Oper.wp
  rw [hr]
  exact h
def fewS (ls : List (List Int)) : List (List Int) := (ls.take 20).map (·.take 50)
/-- An own row of slices that lay there before. -/
def FI (w W : World) (v : Value) (bs : List (List Int)) : Prop :=
  (∃ us : List Value, W.ownsRow w.heap.size 32 1 v bs.length us ∧ ∀ (i : Nat) (u : Value) (l : List Int), us[i]? = some u → bs[i]? = some l → BAt w u l) ∧ Below w.heap.size w W
theorem FI.toA {w W : World} {v : Value} {bs : List (List Int)} (h : FI w W v bs) : RowsA W v bs := by
  obtain ⟨⟨us, h1, h2⟩, hw⟩ := h
  rcases h1.2 with ⟨e, h0⟩ | ⟨g, cap, cur, e, hg, hh, _⟩
  · exact ⟨none, 0, by rw [e, h0], fun hp => by omega⟩
  · refine ⟨_, cap, e, fun hp => ⟨g, 0, rfl, (Array.getElem?_eq_some_iff.1 hh).1, fun i l hi => ?_⟩⟩
    have hl : us.length = bs.length := by have := h1.1; simpa using this
    have hi2 : i < us.length := by rw [hl]; exact (List.getElem?_eq_some_iff.1 hi).1
    have hu : us[i]? = some us[i] := List.getElem?_eq_getElem hi2
    refine ⟨us[i], ?_, (h2 i _ l hu hi).kept hw⟩
    have h3 := h1.cells (g := g) (by rw [e]; rfl) i _ hu
    rwa [show (⟨g, 0, none⟩ : Addr).add i = ⟨g, 0 + i, none⟩ from by unfold Addr.add; split <;> simp_all] at h3
theorem FI.step {w W : World} {v u : Value} {bs : List (List Int)} {l : List Int} (h : FI w W v bs) (hu : BAt w u l) (hu1 : u.oneCell' = true) (hn : bs.length ≤ 1000) :
    ∃ A n c W5, (Builtin.append_ #[31, 31] 31 #[v, .slice (some ⟨W.heap.size, 0, none⟩) 1 1]).run Tryz.prog (W.drew.alloc (.cells #[u] 32)) = .ok (.slice A n c) W5 ∧ FI w W5 (.slice A n c) (bs ++ [l]) := by
  obtain ⟨⟨us, h1, h2⟩, hw⟩ := h
  have hal : Below W.heap.size W (W.drew.alloc (.cells #[u] 32)) := ((Below.refl _ _).drew).trans (Jo.alloc_below W.drew _)
  have own3 : (W.drew.alloc (.cells #[u] 32)).ownsRow w.heap.size 32 1 v bs.length us := Oc.ownsRow_kept h1 (fun g hg => hal.block g (h1.lt g hg).2)
  obtain ⟨A, n, c, W5, hr, ho, hg5, _⟩ := app_row (u := u) own3 (by omega) (by have := hw.size; have := hal.size; omega) (block_new W.drew _) hu1
  refine ⟨A, n, c, W5, hr, ⟨us ++ [u], by rw [List.length_append]; exact ho, fun i x y hx hy => ?_⟩, (hw.trans (hal.mono hw.size)).grown hg5 (by have := hw.size; have := hal.size; omega) (fun k hk => (h1.lt k hk).1)⟩
  have hul : us.length = bs.length := by have := h1.1; simpa using this
  rw [List.getElem?_append] at hx hy
  split at hx
  · rename_i hi
    rw [if_pos (by omega)] at hy
    exact h2 i x y hx hy
  · rename_i hi
    rw [if_neg (by omega)] at hy
    have e3 : i - us.length = 0 := by
      have := (List.getElem?_eq_some_iff.1 hx).1
      simp at this; omega
    rw [e3] at hx
    rw [← hul, e3] at hy
    simp at hx hy
    subst hx hy
    exact hu
theorem few_snoc {ls : List (List Int)} {i : Nat} (h : i < ls.length) : (ls.take (i + 1)).map (·.take 50) = (ls.take i).map (·.take 50) ++ [(ls.getD i []).take 50] := by
  have e : ls.getD i [] = ls[i] := by simp [List.getD, List.getElem?_eq_getElem h]
  rw [List.take_succ_eq_append_getElem h, List.map_append, e]
  rfl
theorem take_min {l : List Int} {n q : Nat} (h : q = min l.length n) : l.take q = l.take n := by
  rw [h]
  rcases Nat.le_total l.length n with h1 | h1
  · rw [Nat.min_eq_left h1, List.take_length, List.take_of_length_le h1]
  · rw [Nat.min_eq_right h1]
end Go.Proofs.YtjijgoflbjbnfaaGreat.Sp

namespace Go.Proofs.YtjijgoflbjbnfaaGreat.Vt
open Go.RowKit Fr Sr Jo

def isS (x : Value) : Prop := ∃ A n c, x = .slice A n c
/-- Its block holds slices alone. -/
def AllS (w : World) (v : Value) : Prop := ∀ g, v.ownBlock = some g → ∀ cur t f, w.heap[g]? = some (.cells cur t f) → ∀ x ∈ cur.toList, isS x
theorem allS_nob {w : World} {v : Value} (h : AllS w v) : NoB w (fun i => v.ownBlock = some i) := fun i hi k x hc => by
  simp only [World.cell?] at hc
  cases hh : w.heap[i]? with
  | none => rw [hh] at hc; cases hc
  | some o =>
    rw [hh] at hc
    cases o with
    | cells cur t f =>
      have h1 : cur[k]? = some (.int .u8 x) := hc
      obtain ⟨A, n, c, h2⟩ := h i hi cur t f hh (.int .u8 x) (by rw [← Array.getElem?_toList] at h1; exact List.mem_of_getElem? h1)
      cases h2
    | _ => cases hc
theorem allS_kept {w w' : World} {v : Value} (h : AllS w v) (hk : ∀ g, v.ownBlock = some g → w'.heap[g]? = w.heap[g]?) : AllS w' v := fun g hg cur t f hh => h g hg cur t f (by rw [← hk g hg]; exact hh)
theorem zero_isS (n : Nat) : ∀ x ∈ (Builtin.zeroCells (Value.slice none 0 0).cells n).toList, isS x := fun x hx => by
  simp [Builtin.zeroCells, Value.cells] at hx
  obtain ⟨i, _, hi⟩ := hx
  have e : i % 1 = 0 := Nat.mod_one i
  rw [e] at hi
  exact ⟨none, 0, 0, hi.symm⟩
theorem app_rowS {w : World} {base : Nat} {v u : Value} {us : List Value} {n g : Nat} (h : w.ownsRow base 32 1 v n us) (hS : AllS w v) (hn : n ≤ 100000) (hb : base ≤ w.heap.size) (hg : w.heap[g]? = some (.cells #[u] 32 (0, 0))) (hu : isS u) :
    ∃ A' n' c' w', (Builtin.append_ #[31, 31] 31 #[v, .slice (some ⟨g, 0, none⟩) 1 1]).run Tryz.prog w = .ok (.slice A' n' c') w' ∧ w'.ownsRow base 32 1 (.slice A' n' c') (n + 1) (us ++ [u]) ∧ w.grownBy w' v.ownBlock ∧ (∀ i, (Value.slice A' n' c').ownBlock = some i → v.ownBlock = some i ∨ w.heap.size ≤ i) ∧ AllS w' (.slice A' n' c') := by
  obtain ⟨i0, hi0, hz0, hz1, hz2⟩ := info_parts Jo.rowsInf
  have hu1 : u.oneCell' = true := by obtain ⟨A, m, c, rfl⟩ := hu; rfl
  obtain ⟨v', w', hr, ho, hgr, hloc⟩ := Jo.app_row h hn hb hg hu1
  obtain ⟨A', n', c', rfl⟩ : ∃ A n c, v' = .slice A n c := by
    rcases ho.2 with ⟨h7, _⟩ | ⟨g, cap, cur, h7, _⟩
    · exact ⟨none, 0, 0, h7⟩
    · exact ⟨_, _, _, h7⟩
  refine ⟨A', n', c', w', hr, ho, hgr, hloc, ?_⟩
  have hnews := World.news_of_block (cs := #[u]) hg
  have hl : ([u] : List Value).length = 1 * i0.size := by rw [hz1]; rfl
  rcases h.2 with ⟨rfl, rfl⟩ | ⟨g0, cap, cur, rfl, hb0, hg0, hnc, hcm, hcs, htake⟩
  · have hr2 := run_append_nil (P := Tryz.prog) w 31 31 32 i0 (.slice none 0 0) Tryz.underlying31 hi0 hz0 ⟨g, 0, none⟩ 1 1 [u] hl hnews (by omega) (by omega) (by rw [hz2]; omega)
    rw [hr] at hr2
    cases hr2
    intro g1 hg1 c1 t1 f1 hh x hx
    cases hg1
    have hh2 := (World.alloc_heap_new w.drew _).symm.trans hh
    cases hh2
    simp only [Array.toList_append] at hx
    rcases List.mem_append.1 hx with h1 | h1
    · simp at h1; rw [h1]; exact hu
    · exact zero_isS _ x h1
  · by_cases hroom : n + 1 ≤ cap
    · have hr2 := run_append_room (P := Tryz.prog) w 31 31 32 i0 Tryz.underlying31 hi0 g0 n cap cur hg0 ⟨g, 0, none⟩ 1 1 [u] hl hnews (by simpa using hu1) hroom (by rw [hz1, hcs]; simp; omega)
      rw [hr] at hr2
      cases hr2
      intro g1 hg1 c1 t1 f1 hh x hx
      cases hg1
      rw [setRow_heap w g0 cur _ _ _ hg0] at hh
      cases hh
      have hcur := hS g0 rfl cur 32 (0, 0) hg0
      simp only [List.append_assoc] at hx
      rcases List.mem_append.1 hx with h1 | h1
      · exact hcur x (List.mem_of_mem_take h1)
      · rcases List.mem_append.1 h1 with h1 | h1
        · simp at h1; rw [h1]; exact hu
        · exact hcur x (List.mem_of_mem_drop h1)
    · have holds := h.cells (g := g0) rfl
      have hr2 := run_append_grow (P := Tryz.prog) w 31 31 32 i0 (.slice none 0 0) Tryz.underlying31 hi0 hz0 ⟨g0, 0, none⟩ n cap us (by rw [hz1]; exact h.1) holds ⟨g, 0, none⟩ 1 1 [u] hl hnews (by omega) (by omega) (by rw [hz2]; exact growslice_fits (by omega) (by omega))
      rw [hr] at hr2
      cases hr2
      intro g1 hg1 c1 t1 f1 hh x hx
      cases hg1
      have hh2 := (World.alloc_heap_new w.drew _).symm.trans hh
      cases hh2
      have hcur := hS g0 rfl cur 32 (0, 0) hg0
      simp only [Array.toList_append] at hx
      rcases List.mem_append.1 hx with h1 | h1
      · rcases List.mem_append.1 h1 with h1 | h1
        · refine hcur x ?_
          rw [← htake] at h1
          exact List.mem_of_mem_take h1
        · simp at h1; rw [h1]; exact hu
      · exact zero_isS _ x h1
theorem own_empty (W : World) (b : Nat) (h : b ≤ W.heap.size) : (W.alloc (.cells #[] 32)).ownsRow b 32 1 (.slice (some ⟨W.heap.size, 0, none⟩) 0 0) 0 [] := by
  refine ⟨rfl, .inr ⟨W.heap.size, 0, #[], rfl, h, block_new W _, Nat.le_refl _, Nat.zero_le _, rfl, rfl⟩⟩
/-- All of a list behind none. -/
theorem app_allV {w W : World} {v : Value} {us : List Value} {hs : List (List Int)} (h1 : W.ownsRow w.heap.size 32 1 v hs.length us) (h2 : ∀ (i : Nat) (u : Value) (l : List Int), us[i]? = some u → hs[i]? = some l → BAt w u l ∧ isS u) (hw : Below w.heap.size w W) (hn : hs.length ≤ 1000) :
    ∃ A n c w', (Builtin.append_ #[31, 31] 31 #[.slice (some ⟨W.heap.size, 0, none⟩) 0 0, v]).run Tryz.prog (W.alloc (.cells #[] 32)) = .ok (.slice A n c) w' ∧ Sp.FI W w' (.slice A n c) hs := by
  obtain ⟨i0, hi0, hz0, hz1, hz2⟩ := info_parts Jo.rowsInf
  have hal := alloc_below W (.cells #[] 32)
  have hown := own_empty W W.heap.size (Nat.le_refl _)
  have hul : us.length = hs.length * 1 := h1.1
  rcases h1.2 with ⟨e, h0⟩ | ⟨g, cap, cur, e, hg, hh, hc1, hc2, hs1, hs2⟩
  · subst e
    have hr0 : hs = [] := List.length_eq_zero_iff.1 h0
    subst hr0
    refine ⟨_, 0, 0, _, ?_, ⟨[], hown, fun i u l hu => by simp at hu⟩, hal⟩
    simp [Builtin.append_, run_underlying Tryz.underlying31, sizeOf, typeInfo, hi0, Builtin.lenOf, Builtin.firstCells, storeCells]
    try rfl
  · subst e
    have hkept := Oc.ownsRow_kept h1 (fun q hq => hal.block q (h1.lt q hq).2)
    obtain ⟨v', w', hr, ho, hgr, _, hat⟩ := run_append_own_at (P := Tryz.prog) _ W.heap.size 31 31 32 i0 _ 1 24 Tryz.underlying31 hi0 hz0 hz1 hz2 rfl (by decide) _ 0 [] hown ⟨g, 0, none⟩ hs.length cap us hul (fun j u hj => hkept.cells (g := g) rfl j u hj) (fun u hu => by
      obtain ⟨j, hj, e⟩ := List.mem_iff_getElem.1 hu
      have hj2 : j < hs.length := by omega
      obtain ⟨_, A, m, c, rfl⟩ := h2 j u _ (by rw [List.getElem?_eq_getElem hj, e]) (List.getElem?_eq_getElem hj2)
      rfl) (by unfold maxLen; omega) (by omega) (by simp)
    obtain ⟨A, m, c, rfl⟩ : ∃ A n c, v' = .slice A n c := by
      rcases ho.2 with ⟨h7, _⟩ | ⟨g, cap, cur, h7, _⟩
      · exact ⟨none, 0, 0, h7⟩
      · exact ⟨_, _, _, h7⟩
    rw [List.nil_append, Nat.zero_add] at ho
    exact ⟨A, m, c, w', hr, ⟨us, ho, fun i u l hu hl => ((h2 i u l hu hl).1).kept hw⟩, hal.grown hgr hal.size (fun i e => by cases e; exact Nat.le_refl _)⟩
/-- One more behind it. -/
theorem fi_app {w W : World} {v u : Value} {bs : List (List Int)} {l : List Int} (h : Sp.FI w W v bs) (hu : BAt w u l) (hu1 : u.oneCell' = true) (hn : bs.length ≤ 1000) :
    ∃ A n c W5, (Builtin.append_ #[31, 31] 31 #[v, .slice (some ⟨W.heap.size, 0, none⟩) 1 1]).run Tryz.prog (W.alloc (.cells #[u] 32)) = .ok (.slice A n c) W5 ∧ Sp.FI w W5 (.slice A n c) (bs ++ [l]) := by
  obtain ⟨⟨us, h1, h2⟩, hw⟩ := h
  have hal := alloc_below W (.cells #[u] 32)
  have own3 : (W.alloc (.cells #[u] 32)).ownsRow w.heap.size 32 1 v bs.length us := Oc.ownsRow_kept h1 (fun g hg => hal.block g (h1.lt g hg).2)
  obtain ⟨A, n, c, W5, hr, ho, hg5, _⟩ := Sp.app_row (u := u) own3 (by omega) (by have := hw.size; have := hal.size; omega) (block_new W _) hu1
  refine ⟨A, n, c, W5, hr, ⟨us ++ [u], by rw [List.length_append]; exact ho, fun i x y hx hy => ?_⟩, (hw.trans (hal.mono hw.size)).grown hg5 (by have := hw.size; have := hal.size; omega) (fun k hk => (h1.lt k hk).1)⟩
  have hul : us.length = bs.length := by have := h1.1; omega
  rw [List.getElem?_append] at hx hy
  split at hx
  · rename_i hi
    rw [if_pos (by omega)] at hy
    exact h2 i x y hx hy
  · rename_i hi
    rw [if_neg (by omega)] at hy
    have e3 : i - us.length = 0 := by
      have := (List.getElem?_eq_some_iff.1 hx).1
      simp at this; omega
    rw [e3] at hx
    rw [← hul, e3] at hy
    simp at hx hy
    subst hx hy
    exact hu
end Go.Proofs.YtjijgoflbjbnfaaGreat.Vt
