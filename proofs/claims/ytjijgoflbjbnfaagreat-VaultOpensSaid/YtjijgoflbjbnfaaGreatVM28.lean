/-
  The contract of Get. Conditions: at most a thousand rows.
-/
import Derived.Test.YtjijgoflbjbnfaaGreatVM10
import Derived.Test.YtjijgoflbjbnfaaGreatJRec
import Derived.Test.YtjijgoflbjbnfaaGreatVRec
import Derived.Test.YtjijgoflbjbnfaaGreatVM12
namespace Go.Proofs.YtjijgoflbjbnfaaGreat.Tb.Ib
open Go.RowKit

def zv : V := (⟨none, 0, 0⟩ : Bv)
def zk : K := (0 : Int)
def getL (l : List R) (k : K) : V := match l[pl l k]? with | some r => if r.1 = k then r.2 else zv | none => zv
theorem getL_has (l : List R) (k : K) (h : hasB l k = true) : l[pl l k]? = some (k, getL l k) := by
  obtain ⟨_, v, hv⟩ := has_lt l k h
  rw [hv]
  unfold getL
  rw [hv]
  simp
theorem getL_not (l : List R) (k : K) (h : hasB l k = false) : getL l k = zv := by
  unfold hasB at h
  unfold getL
  cases e : l[pl l k]? with
  | none => rfl
  | some r =>
    rw [e] at h
    have : ¬ r.1 = k := by simpa using h
    simp [this]

set_option maxRecDepth 100000 in
set_option maxHeartbeats 1000000 in
theorem get_any (w : World) (p : Option Addr) (l : List R) (k : K) (h : TabR w p l) (ha : asc l) (hn : l.length ≤ 1000) :
    Calls Tryz.prog 65 #[.pointer p, ek k] w fun e w' => e = .returned (.tuple #[ev (getL l k), .bool (hasB l k)]) ∧ Below w.heap.size w w' := by
  have hf := find_any w p l k h ha hn
  cases hh : hasB l k
  · have hg := getL_not l k hh
    rw [hh] at hf
    have HF := Lib.hid hf
    have HG := Lib.hid hg
    clear hf hg hh ha h
    go_enter Tryz.func65, Tryz.ntmps65
    go_wp2_with (go_at_call 94; refine HF.out.mono ?_; rintro e w' ⟨rfl, hb⟩)
    go_ret2
    rw [HG.out]
    exact ⟨rfl, hb⟩
  · have hg := getL_has l k hh
    have hlt := (has_lt l k hh).1
    rw [hh] at hf
    rcases h with ⟨rfl, rfl⟩ | ⟨b, v, rfl, hbl, hc, hr⟩
    · simp at hlt
    · obtain ⟨A, cap, rfl, _, _, h3⟩ := hr
      rcases h3 with ⟨rfl, rfl⟩ | ⟨g, o, rfl, hg0, hcell⟩
      · simp at hlt
      have hce := hcell _ _ hg
      have HF := Lib.hid hf
      have HC := Lib.hid hc
      have HCE := Lib.hid hce
      clear hf hg hh ha hc hce hcell
      go_enter Tryz.func65, Tryz.ntmps65
      go_wp2_with (go_at_call 94; refine HF.out.mono ?_; rintro e w' ⟨rfl, hb⟩; have c0 := (hb.cell (p := ⟨b, 0, none⟩) hbl).trans HC.out; have c1 := (hb.cell (p := ⟨g, o + pl l k * 2, none⟩) hg0).trans HCE.out.1; have c2 := (hb.cell (p := ⟨g, o + pl l k * 2 + 1, none⟩) hg0).trans HCE.out.2)
      go_ret2
      exact ⟨rfl, hb⟩

end Go.Proofs.YtjijgoflbjbnfaaGreat.Tb.Ib

namespace Go.Proofs.YtjijgoflbjbnfaaGreat.Tb.Ib
open Go.RowKit

set_option maxRecDepth 100000 in
set_option maxHeartbeats 1000000 in
theorem at_none (w : World) (p : Option Addr) (l : List R) (i : Int) (h : TabR w p l) (hn : l.length ≤ 1000) (hi : i < 0 ∨ l.length ≤ i) :
    Calls Tryz.prog 84 #[.pointer p, .int .i64 i] w fun e w' => e = .returned (.tuple #[.agg #[ek zk, ev zv], .bool false]) ∧ Below w.heap.size w w' := by
  have HH := Lib.hid h
  clear h
  rcases Int.lt_or_le i 0 with h0 | h0
  · go_enter Tryz.func84, Tryz.ntmps84
    go_wp2
    exact bodyPost_ret (v := .tuple #[.agg #[ek zk, ev zv], .bool false]) (by simp [results, Tryz.results84, go_sem, ek, ev, zk, zv]; try rfl) rfl ⟨rfl, (Below.refl _ _).alloc (Nat.le_refl _) _⟩
  · have h1 : (l.length : Int) ≤ i := by omega
    clear hi
    go_enter Tryz.func84, Tryz.ntmps84
    go_wp2_with (go_at_call 85; refine (len_any _ _ _ (HH.out.below ((Below.refl _ _).alloc (Nat.le_refl _) _)) hn).mono ?_; rintro e w' ⟨rfl, rfl⟩)
    exact bodyPost_ret (v := .tuple #[.agg #[ek zk, ev zv], .bool false]) (by simp [results, Tryz.results84, go_sem, ek, ev, zk, zv]; try rfl) rfl ⟨rfl, (Below.refl _ _).alloc (Nat.le_refl _) _⟩
set_option maxRecDepth 100000 in
set_option maxHeartbeats 1000000 in
theorem at_some (w : World) (p : Option Addr) (l : List R) (i : Nat) (r : R) (h : TabR w p l) (hn : l.length ≤ 1000) (hi : l[i]? = some r) :
    Calls Tryz.prog 84 #[.pointer p, .int .i64 i] w fun e w' => e = .returned (.tuple #[.agg #[ek r.1, ev r.2], .bool true]) ∧ Below w.heap.size w w' := by
  have hlt : i < l.length := (List.getElem?_eq_some_iff.1 hi).1
  have HL := Lib.hid (len_any _ _ _ (h.below ((Below.refl _ _).alloc (Nat.le_refl _) (.cells #[ek zk, ev zv] 100))) hn)
  rcases h with ⟨rfl, rfl⟩ | ⟨b, v, rfl, hbl, hc, hr⟩
  · simp at hi
  · obtain ⟨A, cap, rfl, _, _, h3⟩ := hr
    rcases h3 with ⟨rfl, rfl⟩ | ⟨g, o, rfl, hg0, hcell⟩
    · simp at hi
    have hce := hcell _ _ hi
    have c1 := hce.1
    have c2 := hce.2
    clear hce hcell hi
    unfold ek at c1
    unfold ev at c2
    go_enter Tryz.func84, Tryz.ntmps84
    go_wp2_with (go_at_call 85; refine HL.out.mono ?_; rintro e w' ⟨rfl, rfl⟩)
    exact bodyPost_ret (v := .tuple #[.agg #[ek r.1, ev r.2], .bool true]) (by simp [results, Tryz.results84, go_sem, ek, ev]) rfl ⟨rfl, (Below.refl _ _).alloc (Nat.le_refl _) _⟩
end Go.Proofs.YtjijgoflbjbnfaaGreat.Tb.Ib

namespace Go.Proofs.YtjijgoflbjbnfaaGreat.Jo
open Go.RowKit Fr Sr

section
variable {w : World} {p j t nx : Nat} {s : Sr.S} {mb : Option Nat} {L : List Fi} {snd : Bool} {sv : Value} {xs : List Xr} {rs : List Re}
set_option maxRecDepth 100000 in
theorem jnext_any (h : JSt w p s mb L j t snd nx sv xs rs) : Calls Tryz.prog 40 #[.pointer (some ⟨j, 0, none⟩)] w fun e w' => e = .returned (.int .i64 (nx : Int)) ∧ w = w' := by
  obtain ⟨⟨c0, c1, c2, c3⟩, _⟩ := four h.jr.blk
  clear h
  go_enter Tryz.func40, Tryz.ntmps40
  go_wp2_with (go_at_call 64; (with_reducible refine (orNone_some _ _).mono ?_); rintro e w' ⟨rfl, rfl⟩)
  go_ret
  exact ⟨rfl, rfl⟩
/-- The first number: of the first record, or the next. -/
def fstR (rs : List Re) (nx : Nat) : Nat := match rs with | [] => nx | r :: _ => r.1
set_option maxRecDepth 100000 in
set_option maxHeartbeats 2000000 in
theorem jfirst_any (h : JSt w p s mb L j t snd nx sv xs rs) : Calls Tryz.prog 54 #[.pointer (some ⟨j, 0, none⟩)] w fun e w' => e = .returned (.int .i64 (fstR rs nx : Int)) ∧ Below w.heap.size w w' := by
  obtain ⟨⟨c0, c1, c2, c3⟩, _⟩ := four h.jr.blk
  have HH := Lib.hid h
  have htab : Tb.Ib.TabR w (some ⟨t, 0, none⟩) xs := h.jr.tab.read
  have hfew := h.jr.few
  have hlen := h.jr.vals.1
  cases xs with
  | nil =>
    have hrs : rs = [] := List.length_eq_zero_iff.1 hlen.symm
    have HA : Hid (Calls Tryz.prog 84 #[.pointer (some ⟨t, 0, none⟩), .int .i64 0] w fun e w' => e = .returned (.tuple #[.agg #[.int .i64 0, .slice none 0 0], .bool false]) ∧ Below w.heap.size w w') := Lib.hid (Tb.Ib.at_none w (some ⟨t, 0, none⟩) [] 0 htab (by simp) (.inr (by simp)))
    subst hrs
    clear htab hlen h hfew
    go_enter Tryz.func54, Tryz.ntmps54
    go_wp2_with (first
      | (go_at_call 40; (with_reducible refine (jnext_any HH3.out).mono ?_); rintro e w' ⟨rfl, rfl⟩)
      | (go_at_call 84; (with_reducible refine HA.out.mono ?_); rintro e w2 ⟨rfl, hb2⟩
         have hal := alloc_below w2 (.cells #[.int .i64 0, .slice none 0 0] 100)
         have hb3 := hb2.trans (hal.mono hb2.size)
         have HB3 := Lib.hid hb3
         have HH3 := Lib.hid (HH.out.below hb3)
         clear hb2 hal hb3)
      | (go_at_call 64; (with_reducible refine (orNone_some _ _).mono ?_); rintro e w' ⟨rfl, rfl⟩))
    go_ret
    exact ⟨rfl, HB3.out⟩
  | cons x xs =>
    obtain ⟨r, rs', rfl⟩ : ∃ r rs', rs = r :: rs' := by
      cases rs with
      | nil => simp at hlen
      | cons r rs' => exact ⟨r, rs', rfl⟩
    have hx := (h.jr.vals.2 0 x r rfl rfl).1
    obtain ⟨xk, xv⟩ := x
    obtain ⟨vA, vn, vc⟩ := xv
    have hx : xk = (r.1 : Int) := hx
    subst hx
    have HA : Hid (Calls Tryz.prog 84 #[.pointer (some ⟨t, 0, none⟩), .int .i64 0] w fun e w' => e = .returned (.tuple #[.agg #[.int .i64 (r.1 : Int), .slice vA vn vc], .bool true]) ∧ Below w.heap.size w w') := Lib.hid (Tb.Ib.at_some w (some ⟨t, 0, none⟩) _ 0 ((r.1 : Int), ⟨vA, vn, vc⟩) htab (by omega) rfl)
    clear htab hlen h hfew
    go_enter Tryz.func54, Tryz.ntmps54
    go_wp2_with (first
      | (go_at_call 84; (with_reducible refine HA.out.mono ?_); rintro e w2 ⟨rfl, hb2⟩
         have hal := alloc_below w2 (.cells #[.int .i64 (r.1 : Int), .slice vA vn vc] 100)
         have HB3 := Lib.hid (hb2.trans (hal.mono hb2.size))
         clear hb2 hal)
      | (go_at_call 64; (with_reducible refine (orNone_some _ _).mono ?_); rintro e w' ⟨rfl, rfl⟩))
    go_ret
    exact ⟨rfl, HB3.out⟩
end
end Go.Proofs.YtjijgoflbjbnfaaGreat.Jo

namespace Go.Proofs.YtjijgoflbjbnfaaGreat.Vt
open Go.RowKit Fr Sr Jo Sp

set_option maxRecDepth 100000 in
theorem vorNone_some (w : World) (b : Nat) : Calls Tryz.prog 31 #[.pointer (some ⟨b, 0, none⟩)] w fun e w' => e = .returned (.pointer (some ⟨b, 0, none⟩)) ∧ w = w' := by
  go_enter Tryz.func31, Tryz.ntmps31
  go_wp2
  go_ret
  exact ⟨rfl, rfl⟩
theorem rowsO_eq {w : World} {b : Nat} {T : Nat → Prop} {v : Value} {bs : List (List Int)} (h : RowsO w b T v bs) : ∃ A n c, v = .slice A n c := by
  obtain ⟨us, h1, _⟩ := h
  rcases h1.2 with ⟨h3, _⟩ | ⟨g, cap, cur, h3, _⟩
  · exact ⟨none, 0, 0, h3⟩
  · exact ⟨_, _, _, h3⟩
section
variable {w : World} {p j t nx vb n c fr : Nat} {s : S} {mb : Option Nat} {L : List Fi} {jn sd : Bool} {sv : Value} {xs : List Xr} {rs : List Re} {A : Option Addr} {pk : List (List Int)} {Z : Nat → Prop}
set_option maxRecDepth 100000 in
theorem vsound_any (h : VaX w Z p vb s mb L j t jn nx sv xs rs A n c pk fr sd) : Calls Tryz.prog 19 #[.pointer (some ⟨vb, 0, none⟩)] w fun e w' => e = .returned (.bool sd) ∧ w = w' := by
  obtain ⟨⟨c0, c1, c2, c3, c4⟩, _⟩ := five h.blk
  clear h
  go_enter Tryz.func19, Tryz.ntmps19
  go_wp2_with (go_at_call 31; (with_reducible refine (vorNone_some _ _).mono ?_); rintro e w' ⟨rfl, rfl⟩)
  go_ret
  exact ⟨rfl, rfl⟩
set_option maxRecDepth 100000 in
theorem vlen_any (h : VaX w Z p vb s mb L j t jn nx sv xs rs A n c pk fr sd) : Calls Tryz.prog 20 #[.pointer (some ⟨vb, 0, none⟩)] w fun e w' => e = .returned (.int .i64 (nx : Int)) ∧ w = w' := by
  obtain ⟨⟨c0, c1, c2, c3, c4⟩, _⟩ := five h.blk
  have HN := Lib.hid (jnext_any h.js)
  clear h
  go_enter Tryz.func20, Tryz.ntmps20
  go_wp2_with (first
    | (go_at_call 40; (with_reducible refine HN.out.mono ?_); rintro e w' ⟨rfl, rfl⟩)
    | (go_at_call 31; (with_reducible refine (vorNone_some _ _).mono ?_); rintro e w' ⟨rfl, rfl⟩))
  go_ret
  exact ⟨rfl, rfl⟩
set_option maxRecDepth 100000 in
theorem vrest_any (h : VaX w Z p vb s mb L j t jn nx sv xs rs A n c pk fr sd) (hl : ∀ r ∈ rs, r.2.length ≤ 2000000) : Calls Tryz.prog 63 #[.pointer (some ⟨vb, 2, none⟩)] w fun e w' => ∃ v, e = .returned v ∧ RowsO w' w.heap.size (fun _ => False) v ((rs.drop (Tb.pl xs (fr : Int))).map (·.2)) ∧ Below w.heap.size w w' := by
  obtain ⟨⟨c0, c1, c2, c3, c4⟩, _⟩ := five h.blk
  obtain ⟨B, hB⟩ : ∃ B, B = (rs.drop (Tb.pl xs (fr : Int))).map (·.2) := ⟨_, rfl⟩
  have hvl : vb < w.drew.heap.size := h.zl vb h.zv
  have HR := Lib.hid (recordsO_any (h.js.below ((Below.refl _ _).drew)) (fr : Int) hl)
  rw [← hB] at HR ⊢
  clear h hB
  go_enter Tryz.func63, Tryz.ntmps63
  go_upto_region 1 with fail
  go_region_held3 (fun w' => w'.cell? ⟨vb, 2, none⟩ = some (.pointer (some ⟨j, 0, none⟩)) ∧ w'.cell? ⟨vb, 3, none⟩ = some (.int .i64 (fr : Int)))
    (first | (exact ⟨D2, D3⟩) | (exact ⟨c2, c3⟩) | go_keep)
    ((go_at_call 97; (with_reducible refine HR.out.mono ?_); rintro e w2 ⟨v, rfl, hr, hb⟩; obtain ⟨A2, n2', c2', rfl⟩ := rowsO_eq hr; have D2 := (hb.cell (p := ⟨vb, 2, none⟩) hvl).trans c2; have D3 := (hb.cell (p := ⟨vb, 3, none⟩) hvl).trans c3; have HRB := Lib.hid hr; have HB := Lib.hid hb; clear hr hb))
  go_wp2
  go_ret
  exact ⟨_, rfl, HRB.out, ((Below.refl _ _).drew).trans HB.out⟩
set_option maxRecDepth 100000 in
theorem vtold_ok (w : World) (b : Nat) (E : Int) (hE : ¬ E = 14) : Calls Tryz.prog 30 #[.pointer (some ⟨b, 0, none⟩), .int .i64 E] w fun e w' => e = .returned (.int .i64 E) ∧ w = w' := by
  go_enter Tryz.func30, Tryz.ntmps30
  go_wp2
  go_ret
  exact ⟨rfl, rfl⟩
set_option maxRecDepth 100000 in
theorem vtold_down (w : World) (b : Nat) (v : Value) (hc : w.cell? ⟨b, 4, none⟩ = some v) (hf : w.frozen? ⟨b, 4, none⟩ = false) : Calls Tryz.prog 30 #[.pointer (some ⟨b, 0, none⟩), .int .i64 14] w fun e w' => e = .returned (.int .i64 14) ∧ w' = w.setCell ⟨b, 4, none⟩ (.bool false) := by
  go_enter Tryz.func30, Tryz.ntmps30
  go_wp2
  go_ret
  exact ⟨rfl, rfl⟩
/-- told: sound as long as the store did not die. -/
theorem vtold_any (h : VaX w Z p vb s mb L j t jn nx sv xs rs A n c pk fr sd) (E : Int) : Calls Tryz.prog 30 #[.pointer (some ⟨vb, 0, none⟩), .int .i64 E] w fun e w' => e = .returned (.int .i64 E) ∧ VaX w' Z p vb s mb L j t jn nx sv xs rs A n c pk fr (sndE sd E) ∧ Off (fun i => i = vb) w w' := by
  by_cases hE : E = 14
  · subst hE
    obtain ⟨⟨c0, c1, c2, c3, c4⟩, f0, f1, f2, f3, f4⟩ := five h.blk
    refine (vtold_down w vb _ c4 f4).mono ?_
    rintro e w' ⟨rfl, rfl⟩
    have ho : Off (fun i => i = vb) w (w.setCell ⟨vb, 4, none⟩ (.bool false)) := Off.of_grown (grownBy_set _ _ _) fun i e => (Option.some.inj e).symm
    exact ⟨rfl, h.put ho (set_four h.blk 4 _ (by simp)) h.row h.zr, ho⟩
  · refine (vtold_ok w vb E hE).mono ?_
    rintro e w' ⟨rfl, rfl⟩
    unfold sndE
    rw [if_neg hE]
    exact ⟨rfl, h, Off.refl _ _⟩
end
end Go.Proofs.YtjijgoflbjbnfaaGreat.Vt

namespace Go.Proofs.YtjijgoflbjbnfaaGreat.Vt
open Go.RowKit Fr Sr Jo Sp
section
variable {w : World} {p j t nx vb m c fr : Nat} {s : S} {mb : Option Nat} {L : List Fi} {jn sd : Bool} {sv : Value} {xs : List Xr} {rs : List Re} {A : Option Addr} {pk : List (List Int)} {Z : Nat → Prop}
theorem jst_next (h : JSt w p s mb L j t jn nx sv [] rs) (n : Nat) (hn : n ≤ 4611686018427387904) : JSt (w.setCell ⟨j, 3, none⟩ (.int .i64 (n : Int))) p s mb L j t jn n sv [] rs := by
  have ho : Off (fun i => i = j) w (w.setCell ⟨j, 3, none⟩ (.int .i64 (n : Int))) := Off.of_grown (grownBy_set _ _ _) fun i e => (Option.some.inj e).symm
  obtain ⟨n1, n2⟩ := h.ne
  exact ⟨h.st.kept ho (fun i hi e => h.sep i hi (.inl e)), ⟨set_four h.jr.blk 3 _ (by simp), h.jr.tab.kept (kept_of_off ho) (fun e => n1 e.symm) (fun g hg e => n2 (by rw [hg]; exact congrArg some e)), h.jr.vals.step ho (fun i e => .inr (.inl e)) (fun i hi => .inl hi), h.jr.asc, (fun x hx => (by cases hx)), h.jr.few, hn⟩, h.sep⟩
/-- The journal's own block has turned. -/
theorem VaX.jset {w' : World} {jn' : Bool} {nx' : Nat} {xs' : List Xr} {rs' : List Re} (h : VaX w Z p vb s mb L j t jn nx sv xs rs A m c pk fr sd) (ho : Off (fun i => i = j) w w') (hj : JSt w' p s mb L j t jn' nx' sv xs' rs') : VaX w' Z p vb s mb L j t jn' nx' sv xs' rs' A m c pk fr sd :=
  ⟨hj, (ho.2 vb (h.zl vb h.zv) (fun e => h.vn (.inr (.inl e)))).trans h.blk, h.row.step ho (fun _i e => .inl (.inr (.inl e))) (fun _i e => .inl e), h.zo, h.zv, h.zr, h.vn, fun i hi => Nat.lt_of_lt_of_le (h.zl i hi) ho.1.size⟩
set_option maxRecDepth 100000 in
theorem jstart_any (h : JSt w p s mb L j t true nx sv xs []) (n : Nat) (hn : n ≤ 4611686018427387903) : Calls Tryz.prog 55 #[.pointer (some ⟨j, 0, none⟩), .int .i64 (n : Int)] w fun e w' => e = .returned (.int .i64 0) ∧ JSt w' p s mb L j t true n sv xs [] ∧ Off (fun i => i = j) w w' := by
  have hx : xs = [] := List.length_eq_zero_iff.1 h.jr.vals.1
  subst hx
  obtain ⟨⟨c0, c1, c2, c3⟩, f0, f1, f2, f3⟩ := four h.jr.blk
  have HS := Lib.hid (sound_any h)
  have HL := Lib.hid (Tb.Ib.len_any w (some ⟨t, 0, none⟩) [] h.jr.tab.read (by decide))
  have HJ := Lib.hid (jst_next h n (by omega))
  have ho : Off (fun i => i = j) w (w.setCell ⟨j, 3, none⟩ (.int .i64 (n : Int))) := Off.of_grown (grownBy_set _ _ _) fun i e => (Option.some.inj e).symm
  have HO := Lib.hid ho
  have t1 : ¬ (n : Int) < 0 := by omega
  have t2 : ¬ (4611686018427387903 : Int) < (n : Int) := by omega
  clear h ho
  go_enter Tryz.func55, Tryz.ntmps55
  go_wp2_with (first
    | (go_at_call 85; (with_reducible refine HL.out.mono ?_); rintro e w' ⟨rfl, rfl⟩)
    | (go_at_call 56; (with_reducible refine HS.out.mono ?_); rintro e w' ⟨rfl, rfl⟩))
  go_ret
  exact ⟨rfl, HJ.out, HO.out⟩
/-- What join tells. -/
def joE (rs : List Re) (nx n : Nat) : Int := if rs = [] then 0 else if n < fstR rs nx ∨ nx < n then 8 else 0
set_option maxRecDepth 100000 in
set_option maxHeartbeats 4000000 in
theorem vjoin_any (h : VaX w Z p vb s mb L j t true nx sv xs rs A m c pk fr sd) (n : Nat) (hn : n ≤ 4611686018427387903) (hfs : rs ≠ [] → fstR rs nx ≠ nx) :
    Calls Tryz.prog 28 #[.pointer (some ⟨vb, 2, none⟩), .int .i64 (n : Int)] w fun e w' => e = .returned (.int .i64 (joE rs nx n)) ∧ VaX w' Z p vb s mb L j t true (if rs = [] then n else nx) sv xs rs A m c pk n sd ∧ Off (fun i => i = vb ∨ i = j) w w' := by
  obtain ⟨⟨c0, c1, c2, c3, c4⟩, f0, f1, f2, f3, f4⟩ := five h.blk
  obtain ⟨W1, hW1⟩ : ∃ W1, W1 = w.setCell ⟨vb, 3, none⟩ (.int .i64 (n : Int)) := ⟨_, rfl⟩
  have ho1 : Off (fun i => i = vb) w W1 := by rw [hW1]; exact Off.of_grown (grownBy_set _ _ _) fun i e => (Option.some.inj e).symm
  have h1 : VaX W1 Z p vb s mb L j t true nx sv xs rs A m c pk n sd := h.put ho1 (by rw [hW1]; exact set_four h.blk 3 _ (by simp)) h.row h.zr
  obtain ⟨⟨d0, d1, d2, d3, d4⟩, _⟩ := five h1.blk
  have H1 := Lib.hid h1
  have HO1 := Lib.hid ho1
  have HW1 := Lib.hid hW1
  clear h h1 ho1
  have HC1 : Hid (∀ V : World, Below W1.heap.size W1 V → ∀ q : InW V, Calls Tryz.prog 54 #[.pointer (some ⟨j, 0, none⟩)] q.val fun e w'' => e = .returned (.int .i64 (fstR rs nx : Int)) ∧ ∃ q' : InW V, w'' = q'.val) := fun V hV q => calls_in (jfirst_any ((H1.out.js.below hV).below q.bel))
  have HC2 : Hid (∀ V : World, Below W1.heap.size W1 V → ∀ q : InW V, Calls Tryz.prog 40 #[.pointer (some ⟨j, 0, none⟩)] q.val fun e w'' => e = .returned (.int .i64 (nx : Int)) ∧ ∃ q' : InW V, w'' = q'.val) := fun V hV q => calls_in ((jnext_any ((H1.out.js.below hV).below q.bel)).mono fun e w' ⟨he, hw⟩ => ⟨he, by rw [← hw]; exact Below.refl _ _⟩)
  have hv1 : vb < W1.heap.size := H1.out.zl vb H1.out.zv
  have D2 : ∀ V : World, Below W1.heap.size W1 V → ∀ q : InW V, q.val.cell? ⟨vb, 2, none⟩ = some (.pointer (some ⟨j, 0, none⟩)) := fun V hV q => q.cell ((hV.cell (p := ⟨vb, 2, none⟩) hv1).trans d2)
  have HD2 := Lib.hid D2
  obtain ⟨fs, hfs2⟩ : ∃ fs, fs = fstR rs nx := ⟨_, rfl⟩
  rw [← hfs2] at HC1
  have D2a := D2 W1 (Below.refl _ _)
  have C1a := HC1.out W1 (Below.refl _ _)
  have C2a := HC2.out W1 (Below.refl _ _)
  clear d0 d1 d3 d4 D2 hv1
  by_cases hrs : rs = []
  · subst hrs
    have e1 : joE [] nx n = 0 := if_pos rfl
    rw [e1, if_pos rfl]
    have e2 : fs = nx := hfs2
    subst e2
    clear hfs e1 hfs2
    go_enter Tryz.func28, Tryz.ntmps28
    go_upto_region 2 with fail
    rw [← HW1.out]
    refine wp_region_below (W := W1) (by kernel_rfl) (by kernel_rfl) (Below.refl _ _) ?_
    repeat (go_big_quiet_step ((first | (go_at_call 54; with_reducible exact C1a _) | (go_at_call 40; with_reducible exact C2a _))))
    refine wpQuiet_nil ?_
    rintro _ ⟨qq, rfl⟩
    obtain ⟨w9, hb9⟩ := qq
    try dsimp only
    have H9 := Lib.hid (H1.out.below hb9)
    have HB9 := Lib.hid hb9
    have d9 := HD2.out w9 hb9 ⟨w9, Below.refl _ _⟩
    have HST := Lib.hid (jstart_any H9.out.js n hn)
    clear hb9 D2a C1a C2a
    dsimp only at d9
    go_wp2_with (go_at_call 55; (with_reducible refine HST.out.mono ?_); rintro e w' ⟨rfl, hj, ho⟩; have HJ := Lib.hid hj; have HO := Lib.hid ho; clear hj ho)
    go_ret
    have hoo : Off (fun i => i = vb ∨ i = j) w w' := off_two (HO1.out) (off_two (Off.of_below (fun _ => False) HB9.out) HO.out (T := fun i => i = j) (fun _ e => e.elim) (fun _ e => .inl e)) (fun _ e => .inl e) (fun _ e => .inl (.inr e))
    exact ⟨rfl, H9.out.jset HO.out HJ.out, hoo⟩
  · have hne : ¬ (fs : Int) = (nx : Int) := by have := hfs hrs; omega
    rw [if_neg hrs]
    have hE : joE rs nx n = if n < fs ∨ nx < n then 8 else 0 := by unfold joE; rw [if_neg hrs, hfs2]
    rw [hE]
    obtain ⟨E, hE2⟩ : ∃ E : Int, E = if n < fs ∨ nx < n then 8 else 0 := ⟨_, rfl⟩
    rw [← hE2]
    have HE := Lib.hid hE2
    have hneb : ((fs : Int) == (nx : Int)) = false := by simpa using hne
    have HFS := Lib.hid hfs2
    clear hfs hfs2 hE hrs hE2
    go_enter Tryz.func28, Tryz.ntmps28
    go_upto_region 2 with fail
    rw [← HW1.out]
    refine wp_region_below (W := W1) (by kernel_rfl) (by kernel_rfl) (Below.refl _ _) ?_
    repeat (go_big_quiet_step ((first | (go_at_call 54; with_reducible exact C1a _) | (go_at_call 40; with_reducible exact C2a _))))
    refine wpQuiet_nil ?_
    rintro _ ⟨qq, rfl⟩
    obtain ⟨w9, hb9⟩ := qq
    try dsimp only
    have H9 := Lib.hid (H1.out.below hb9)
    have HB9 := Lib.hid hb9
    have d9 : w9.cell? ⟨vb, 2, none⟩ = some (.pointer (some ⟨j, 0, none⟩)) := HD2.out w9 hb9 ⟨w9, Below.refl _ _⟩
    have hv9 : vb < w9.heap.size := H9.out.zl vb H9.out.zv
    have HF9 : Hid (Calls Tryz.prog 54 #[.pointer (some ⟨j, 0, none⟩)] w9 fun e w' => e = .returned (.int .i64 (fs : Int)) ∧ Below w9.heap.size w9 w') := by
      have h1 := jfirst_any H9.out.js
      rw [← HFS.out] at h1
      exact h1
    have HNX : Hid (∀ V, Below w9.heap.size w9 V → Calls Tryz.prog 40 #[.pointer (some ⟨j, 0, none⟩)] V fun e w' => e = .returned (.int .i64 (nx : Int)) ∧ V = w') := fun V hV => jnext_any (H9.out.js.below hV)
    clear hb9 D2a C1a C2a
    have ho9 : Off (fun i => i = vb ∨ i = j) w w9 := off_two HO1.out (Off.of_below (fun _ => False) HB9.out) (fun _ e => .inl e) (fun _ e => e.elim)
    have HO9 := Lib.hid ho9
    clear ho9
    have fin : ∀ W, Below w9.heap.size w9 W → VaX W Z p vb s mb L j t true nx sv xs rs A m c pk n sd ∧ Off (fun i => i = vb ∨ i = j) w W := fun W hW => ⟨H9.out.below hW, off_two HO9.out (Off.of_below (fun _ => False) hW) (fun _ e => e) (fun _ e => e.elim)⟩
    have HFIN := Lib.hid fin
    clear fin
    rcases (by omega : (n < fs) ∨ (¬ n < fs ∧ nx < n) ∨ (¬ n < fs ∧ ¬ nx < n)) with q1 | ⟨q1, q2⟩ | ⟨q1, q2⟩
    · have t1 : (n : Int) < (fs : Int) := by omega
      have HE8 : Hid (E = 8) := by show E = 8; rw [HE.out, if_pos (.inl q1)]
      clear q1
      go_wp2_with (first
        | (go_at_call 40; (with_reducible refine (HNX.out w8 HB8.out).mono ?_); rintro e w' ⟨rfl, rfl⟩)
        | (go_at_call 54; (with_reducible refine HF9.out.mono ?_); rintro e w8 ⟨rfl, hb8⟩; have HB8 := Lib.hid hb8; have d8 := (hb8.cell (p := ⟨vb, 2, none⟩) hv9).trans d9; have HFB := Lib.hid (HFIN.out w8 hb8); clear hb8))
      go_ret
      exact ⟨by rw [HE8.out]; rfl, HFB.out⟩
    · have t1 : ¬ (n : Int) < (fs : Int) := by omega
      have t2 : (nx : Int) < (n : Int) := by omega
      have HE8 : Hid (E = 8) := by show E = 8; rw [HE.out, if_pos (.inr q2)]
      clear q1 q2
      go_wp2_with (first
        | (go_at_call 40; (with_reducible refine (HNX.out w8 HB8.out).mono ?_); rintro e w' ⟨rfl, rfl⟩)
        | (go_at_call 54; (with_reducible refine HF9.out.mono ?_); rintro e w8 ⟨rfl, hb8⟩; have HB8 := Lib.hid hb8; have d8 := (hb8.cell (p := ⟨vb, 2, none⟩) hv9).trans d9; have HFB := Lib.hid (HFIN.out w8 hb8); clear hb8))
      go_ret
      exact ⟨by rw [HE8.out]; rfl, HFB.out⟩
    · have t1 : ¬ (n : Int) < (fs : Int) := by omega
      have t2 : ¬ (nx : Int) < (n : Int) := by omega
      have HE8 : Hid (E = 0) := by show E = 0; rw [HE.out, if_neg (fun e => e.elim q1 q2)]
      clear q1 q2
      go_wp2_with (first
        | (go_at_call 40; (with_reducible refine (HNX.out w8 HB8.out).mono ?_); rintro e w' ⟨rfl, rfl⟩)
        | (go_at_call 54; (with_reducible refine HF9.out.mono ?_); rintro e w8 ⟨rfl, hb8⟩; have HB8 := Lib.hid hb8; have d8 := (hb8.cell (p := ⟨vb, 2, none⟩) hv9).trans d9; have HFB := Lib.hid (HFIN.out w8 hb8); clear hb8))
      go_ret
      exact ⟨by rw [HE8.out]; rfl, HFB.out⟩
end
end Go.Proofs.YtjijgoflbjbnfaaGreat.Vt

namespace Go.Proofs.YtjijgoflbjbnfaaGreat.Vt
open Go.RowKit Fr Sr Jo Sp
section
variable {w : World} {p j t nx vb m c fr : Nat} {s : S} {mb : Option Nat} {L : List Fi} {jn sd : Bool} {sv : Value} {xs : List Xr} {rs : List Re} {A : Option Addr} {pk : List (List Int)} {Z : Nat → Prop}
theorem zn_lt {w w' : World} (h : ∀ i, Z i → i < w.heap.size) (hs : w.heap.size ≤ w'.heap.size) : ∀ i, Zn Z w w' i → i < w'.heap.size := fun i hi => hi.elim (fun h1 => Nat.lt_of_lt_of_le (h i h1) hs) (fun h1 => h1.2)
/-- The records of the snapshot are other ones, in new memory. -/
theorem VaX.recs {w2 : World} (h : VaX w Z p vb s mb L j t jn nx sv xs rs A m c pk fr sd) (hb : Below w.heap.size w w2) {A' : Option Addr} {m' c' : Nat} {ls : List (List Int)} (hr : RowsF w.heap.size w2 (.slice A' m' c') ls) : VaX (w2.setCell ⟨vb, 1, none⟩ (.slice A' m' c')) (Zn Z w w2) p vb s mb L j t jn nx sv xs rs A' m' c' ls fr sd := by
  have h2 := (h.below hb).zn (Z' := Zn Z w w2) (fun i hi => .inl hi) (zn_lt h.zl hb.size)
  have ho : Off (fun i => i = vb) w2 (w2.setCell ⟨vb, 1, none⟩ (.slice A' m' c')) := Off.of_grown (grownBy_set _ _ _) fun i e => (Option.some.inj e).symm
  refine h2.put ho (set_four h2.blk 1 _ (by simp)) (RowsF.toT hr fun i hi => ?_) (fun hp a ha => ?_)
  · rcases hi with hi | hi
    · exact h.js.tj_lt hi
    · rw [hi]; exact h.zl vb h.zv
  · obtain ⟨A1, cap, e, h1⟩ := hr
    obtain ⟨g, o, e2, h3, h4, _⟩ := h1 hp
    cases e
    rw [ha] at e2
    cases e2
    exact .inr ⟨h3, h4⟩
set_option maxRecDepth 100000 in
set_option maxHeartbeats 2000000 in
theorem vload_any (h : VaX w Z p vb s mb L j t jn nx sv xs rs A m c pk fr sd) (hb : bok (bytL L ksnap)) :
    Calls Tryz.prog 27 #[.pointer (some ⟨vb, 0, none⟩)] w fun e w' => e = .returned (.tuple #[]) ∧ (∃ A' m' c', VaX w' (Zn Z w w') p vb s mb L j t jn nx sv xs rs A' m' c' (decL (bytL L ksnap)) fr sd) ∧ Off (fun i => i = vb) w w' := by
  obtain ⟨⟨c0, c1, c2, c3, c4⟩, f0, f1, f2, f3, f4⟩ := five h.blk
  have hl := load_any h.js.st hb
  unfold LodR at hl
  obtain ⟨E, hE⟩ : ∃ E : Int, E = (if decE (bytL L ksnap) = 0 then 0 else 13) := ⟨_, rfl⟩
  rw [← hE] at hl
  have HL := Lib.hid hl
  clear hl hE
  have HH := Lib.hid h
  have hv := h.zl vb h.zv
  clear h
  go_enter Tryz.func27, Tryz.ntmps27
  go_wp2_with (go_at_call 53; (with_reducible refine HL.out.mono ?_); rintro e w2 ⟨⟨A2, n2, c2, rfl, hr⟩, hb2⟩; have HR := Lib.hid hr; have HB := Lib.hid hb2; have D1 := (hb2.cell (p := ⟨vb, 1, none⟩) hv).trans c1; have F1 : w2.frozen? ⟨vb, 1, none⟩ = false := (five (block_kept HH.out.blk hb2)).2.2.1; clear hr hb2)
  go_end0
  have ho : Off (fun i => i = vb) w2 (w2.setCell ⟨vb, 1, none⟩ (.slice A2 n2 c2)) := Off.of_grown (grownBy_set _ _ _) fun i e => (Option.some.inj e).symm
  refine ⟨rfl, ⟨A2, n2, c2, ?_⟩, off_two (Off.of_below (fun _ => False) HB.out) ho (fun _ e => e.elim) (fun _ e => .inl e)⟩
  have h3 := HH.out.recs HB.out HR.out
  have e3 : Zn Z w (w2.setCell ⟨vb, 1, none⟩ (.slice A2 n2 c2)) = Zn Z w w2 := by
    funext k
    unfold Zn
    simp [World.setCell]
  rw [e3]
  exact h3
/-- The store has turned. -/
theorem VaX.store {w' : World} {s' : S} {mb' : Option Nat} {L' : List Fi} (h : VaX w Z p vb s mb L j t jn nx sv xs rs A m c pk fr sd) (hm : Mv w w' p mb L s' mb' L') : VaX w' (Zn Z w w') p vb s' mb' L' j t jn nx sv xs rs A m c pk fr sd :=
  h.turn (hm.off.mono fun i hi => .inl hi) (fun i hi => by
    rcases hi with hi | hi
    · exact (hm.new i hi).imp .inl id
    · exact .inl (.inr hi)) (h.js.store hm)
theorem zn_set (Z : Nat → Prop) (w w' : World) (a : Addr) (u : Value) : Zn Z w (w'.setCell a u) = Zn Z w w' := by
  funext k
  unfold Zn
  simp [World.setCell]
set_option maxRecDepth 100000 in
set_option maxHeartbeats 2000000 in
theorem vsave_any (h : VaX w Z p vb s mb L j t jn nx sv xs rs A m c pk fr sd) {A1 : Option Addr} {n1 c1 : Nat} {ls : List (List Int)} (hr : RowsT (fun k => Tj p mb L j t sv k ∨ k = vb) w (.slice A1 n1 c1) ls) (hz : 0 < ls.length → ∀ a, A1 = some a → Z a.block) (hb : ∀ l ∈ ls, bok l ∧ l.length ≤ 2000000) (hf : fitsS ls = true) (ht : tot ls ≤ 1000000) :
    Calls Tryz.prog 33 #[.pointer (some ⟨vb, 0, none⟩), .slice A1 n1 c1] w fun e w' => e = .returned (.int .i64 (svE s L (encS ls))) ∧ (∃ mb' L' A' m' c', VaX w' (Zn Z w w') p vb (svS s L (encS ls)) mb' L' j t jn nx sv xs rs A' m' c' (if svE s L (encS ls) = 0 then ls else pk) fr sd ∧ Sr.Alike (svL s L (encS ls)) L') ∧ Off Z w w' := by
  obtain ⟨⟨c0, c1', c2, c3, c4⟩, f0, f1, f2, f3, f4⟩ := five h.blk
  have hsv := save_any h.js.st hr.toA hb hf ht
  obtain ⟨E, hE⟩ : ∃ E, E = svE s L (encS ls) := ⟨_, rfl⟩
  obtain ⟨s', hs'⟩ : ∃ s', s' = svS s L (encS ls) := ⟨_, rfl⟩
  obtain ⟨Lc, hLc⟩ : ∃ Lc, Lc = svL s L (encS ls) := ⟨_, rfl⟩
  rw [← hE, ← hs', ← hLc] at hsv ⊢
  have HS := Lib.hid hsv
  have HH := Lib.hid h
  have HR := Lib.hid (And.intro hr hz)
  have hv := h.zl vb h.zv
  clear h hsv hr hz hb hf ht hE hs' hLc
  have key : ∀ w2 mb' L', Mv w w2 p mb L s' mb' L' → VaX w2 (Zn Z w w2) p vb s' mb' L' j t jn nx sv xs rs A m c pk fr sd ∧ RowsT (fun k => Tj p mb' L' j t sv k ∨ k = vb) w2 (.slice A1 n1 c1) ls ∧ Off Z w w2 := fun w2 mb' L' hm => by
    refine ⟨HH.out.store hm, HR.out.1.step (hm.off.mono fun i hi => .inl hi) (fun i hi => .inl hi) (fun i hi => ?_), hm.off.mono fun i hi => HH.out.zo i (.inl hi)⟩
    rcases hi with (hi | hi) | hi
    · exact (hm.new i hi).imp (fun h => .inl (.inl h)) id
    · exact .inl (.inl (.inr hi))
    · exact .inl (.inr hi)
  have HKEY := Lib.hid key
  clear key
  by_cases hz : E = 0
  · subst hz
    rw [if_pos rfl]
    go_enter Tryz.func33, Tryz.ntmps33
    go_wp2_with (go_at_call 59; (with_reducible refine HS.out.mono ?_); rintro e w2 ⟨rfl, mb', L', hm, hal⟩; have HK := Lib.hid (HKEY.out w2 mb' L' hm); have HAL := Lib.hid hal
                 have D1 : w2.cell? ⟨vb, 1, none⟩ = some (.slice A m c) := (five HK.out.1.blk).1.2.1
                 have F1 : w2.frozen? ⟨vb, 1, none⟩ = false := (five HK.out.1.blk).2.2.1
                 clear hm hal)
    go_ret
    have ho : Off (fun i => i = vb) w2 (w2.setCell ⟨vb, 1, none⟩ (.slice A1 n1 c1)) := Off.of_grown (grownBy_set _ _ _) fun i e => (Option.some.inj e).symm
    refine ⟨rfl, ⟨mb', L', A1, n1, c1, ?_, HAL.out⟩, off_two HK.out.2.2 ho (fun _ e => e) (fun i e => .inl (by rw [e]; exact HH.out.zv))⟩
    rw [zn_set]
    exact HK.out.1.put ho (set_four HK.out.1.blk 1 _ (by simp)) HK.out.2.1 (fun hp a ha => .inl (HR.out.2 hp a ha))
  · rw [if_neg hz]
    go_enter Tryz.func33, Tryz.ntmps33
    go_wp2_with (go_at_call 59; (with_reducible refine HS.out.mono ?_); rintro e w2 ⟨rfl, mb', L', hm, hal⟩; have HK := Lib.hid (HKEY.out w2 mb' L' hm); have HAL := Lib.hid hal; clear hm hal)
    go_ret
    exact ⟨rfl, ⟨mb', L', A, m, c, HK.out.1, HAL.out⟩, HK.out.2.2⟩
end
end Go.Proofs.YtjijgoflbjbnfaaGreat.Vt

namespace Go.Proofs.YtjijgoflbjbnfaaGreat.Vt
open Go.RowKit Fr Sr Jo Sp
section
variable {w : World} {p j t nx vb m c fr : Nat} {s : S} {mb : Option Nat} {L : List Fi} {jn sd : Bool} {sv : Value} {xs : List Xr} {rs : List Re} {A : Option Addr} {pk : List (List Int)} {Z : Nat → Prop}
set_option maxRecDepth 100000 in
/-- A vault that isn't sound refuses. -/
theorem vadd_no (h : VaX w Z p vb s mb L j t jn nx sv xs rs A m c pk fr false) (v : Value) : Calls Tryz.prog 10 #[.pointer (some ⟨vb, 0, none⟩), v] w fun e w' => e = .returned (.int .i64 10) ∧ w = w' := by
  have HS := Lib.hid (vsound_any h)
  clear h
  go_enter Tryz.func10, Tryz.ntmps10
  go_wp2_with (go_at_call 19; (with_reducible refine HS.out.mono ?_); rintro e w' ⟨rfl, rfl⟩)
  go_ret
  exact ⟨rfl, rfl⟩
set_option maxRecDepth 100000 in
/-- A vault that isn't sound refuses. -/
theorem vpack_no (h : VaX w Z p vb s mb L j t jn nx sv xs rs A m c pk fr false) : Calls Tryz.prog 12 #[.pointer (some ⟨vb, 0, none⟩)] w fun e w' => e = .returned (.int .i64 10) ∧ w = w' := by
  have HS := Lib.hid (vsound_any h)
  clear h
  go_enter Tryz.func12, Tryz.ntmps12
  go_wp2_with (go_at_call 19; (with_reducible refine HS.out.mono ?_); rintro e w' ⟨rfl, rfl⟩)
  go_ret
  exact ⟨rfl, rfl⟩
theorem zn_mono {w w2 w3 : World} (hs : w2.heap.size ≤ w3.heap.size) {i : Nat} (h : Zn Z w w2 i) : Zn Z w w3 i := h.elim .inl (fun h1 => .inr ⟨h1.1, Nat.lt_of_lt_of_le h1.2 hs⟩)
/-- Behind Add. -/
def Added (w w' : World) (Z : Nat → Prop) (p vb : Nat) (s' : S) (Lc : List Fi) (j t : Nat) (jn : Bool) (nx : Nat) (rs : List Re) (A : Option Addr) (m c : Nat) (pk : List (List Int)) (fr : Nat) (sd : Bool) : Prop :=
  (∃ mb' L' sv' xs', VaX w' (Zn Z w w') p vb s' mb' L' j t jn nx sv' xs' rs A m c pk fr sd ∧ Sr.Alike Lc L') ∧ Off Z w w'
set_option maxRecDepth 100000 in
set_option maxHeartbeats 2000000 in
theorem vadd_any (h : VaX w Z p vb s mb L j t true nx sv xs rs A m c pk fr true) {A1 : Option Addr} {n1 c1 : Nat} {l : List Int} (hb : BAt w (.slice A1 n1 c1) l) (hbk : bok l) (hfr : BK (fun k => ¬ Z k) (.slice A1 n1 c1) l) (hn : n1 ≤ 1000) (hnx : nx < 10000) (hx : rs.length < 900) {E : Int} (hE : appE s klog (recF nx l).length = E) :
    Calls Tryz.prog 10 #[.pointer (some ⟨vb, 0, none⟩), .slice A1 n1 c1] w fun e w' => e = .returned (.int .i64 E) ∧ Added w w' Z p vb (appS s klog (recF nx l).length) (appL s L klog (recF nx l)) j t (sndE true E) (if E = 0 then nx + 1 else nx) (if E = 0 then rs ++ [(nx, l)] else rs) A m c pk fr (sndE true E) := by
  have HSO := Lib.hid (vsound_any h)
  have HLE := Lib.hid (vlen_any h)
  obtain ⟨⟨c0, c1', c2, c3, c4⟩, _⟩ := five h.blk
  have hfT : BK (fun k => ¬ Tj p mb L j t sv k) (.slice A1 n1 c1) l := fun hp a n c ha ht => hfr hp a n c ha (h.zo _ ht)
  have hxl : xs.length < 900 := by rw [h.js.jr.vals.1]; exact hx
  have hap : Calls Tryz.prog 29 #[.pointer (some ⟨j, 0, none⟩), .slice A1 n1 c1] w fun e w' => ∃ N : Int, e = .returned (.tuple #[.int .i64 N, .int .i64 E]) ∧ Added w w' Z p vb (appS s klog (recF nx l).length) (appL s L klog (recF nx l)) j t (sndE true E) (if E = 0 then nx + 1 else nx) (if E = 0 then rs ++ [(nx, l)] else rs) A m c pk fr true := by
    by_cases hz : E = 0
    · subst hz
      have h1 := append_ok h.js hb hbk hfT hn (by omega) hxl hE
      refine h1.mono ?_
      rintro e w' ⟨rfl, mb', L', sv', ⟨xs', hj, hal, _⟩, ho, hn⟩
      rw [if_pos rfl, if_pos rfl]
      exact ⟨_, rfl, ⟨mb', L', sv', xs', h.turn ho hn hj, hal⟩, ho.mono h.zo⟩
    · have h1 := append_bad h.js hb hbk hn (by omega) (by rw [hE]; exact hz)
      rw [hE] at h1
      refine h1.mono ?_
      rintro e w' ⟨rfl, mb', L', sv', ⟨hj, hal⟩, ho, hn⟩
      rw [if_neg hz, if_neg hz]
      exact ⟨_, rfl, ⟨mb', L', sv', xs, h.turn ho hn hj, hal⟩, ho.mono h.zo⟩
  obtain ⟨nx2, hnx2⟩ : ∃ a, a = (if E = 0 then nx + 1 else nx) := ⟨_, rfl⟩
  obtain ⟨rs2, hrs2⟩ : ∃ a, a = (if E = 0 then rs ++ [(nx, l)] else rs) := ⟨_, rfl⟩
  obtain ⟨jn2, hjn2⟩ : ∃ a, a = sndE true E := ⟨_, rfl⟩
  rw [← hnx2, ← hrs2, ← hjn2] at hap ⊢
  have HJN := Lib.hid hjn2
  have HAP := Lib.hid hap
  have HZ := Lib.hid h.zv
  have t1 : (nx : Int) < 10000 := by omega
  have t2 : ¬ (10000 : Int) ≤ (nx : Int) := by omega
  clear h hb hbk hfr hx hE hfT hxl hap hnx hnx2 hrs2 hjn2
  go_enter Tryz.func10, Tryz.ntmps10
  go_wp2_with (first
    | (go_at_call 30; (with_reducible refine HT.out.mono ?_); rintro e w3 ⟨rfl, hv3, ho3⟩; have HV3 := Lib.hid hv3; have HO3 := Lib.hid ho3; clear hv3 ho3)
    | (go_at_call 29; (with_reducible refine HAP.out.mono ?_); rintro e w2 ⟨N, rfl, ⟨mb', L', sv', xs', hv, hal⟩, ho⟩
       have HAL := Lib.hid hal
       have HO := Lib.hid ho
       have ht := vtold_any hv E
       rw [← HJN.out] at ht
       have HT := Lib.hid ht
       have d2 := (five hv.blk).1.2.2.1
       clear hv hal ho ht)
    | (go_at_call 20; (with_reducible refine HLE.out.mono ?_); rintro e w' ⟨rfl, rfl⟩)
    | (go_at_call 19; (with_reducible refine HSO.out.mono ?_); rintro e w' ⟨rfl, rfl⟩))
  go_ret
  refine ⟨rfl, ⟨mb', L', sv', xs', ?_, HAL.out⟩, off_two HO.out HO3.out (fun _ e => e) (fun i e => .inl (by rw [e]; exact HZ.out))⟩
  exact HV3.out.zn (Z' := Zn Z w w3) (fun i hi => zn_mono HO3.out.1.size hi) (fun i hi => Or.elim hi (fun h1 => HV3.out.zl i (.inl h1)) (fun h1 => h1.2))
end
end Go.Proofs.YtjijgoflbjbnfaaGreat.Vt
