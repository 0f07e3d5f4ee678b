/-
  The steps of the fixed question. Conditions: none.
-/
import Derived.Test.YtjijgoflbjbnfaaGreatVM23
import Derived.Test.YtjijgoflbjbnfaaGreatVM17
import Derived.Test.YtjijgoflbjbnfaaGreatVM26
import Derived.Test.YtjijgoflbjbnfaaGreatVM21
namespace Go.Proofs.YtjijgoflbjbnfaaGreat.Jo
open Go.RowKit Fr Sr

theorem rp_alike {L L' : List Fi} (h : Sr.Alike L L') (hk : KeysL L) (hk' : KeysL L') (s : S) (bs : List Int) : rpE s L' bs = rpE s L bs ∧ rpS s L' bs = rpS s L bs ∧ Sr.Alike (rpL s L bs) (rpL s L' bs) := by
  obtain ⟨e1, e2, e3⟩ := wri_alike h s knew bs
  obtain ⟨f1, f2, f3⟩ := ren_alike e3 (keys_wri knew bs hk) (keys_wri knew bs hk') (wriS s L knew bs.length) knew klog
  unfold rpE rpS rpL
  rw [e1, e2]
  split
  · exact ⟨f1, f2, f3⟩
  · exact ⟨rfl, rfl, e3⟩
theorem app_alike {L L' : List Fi} (h : Sr.Alike L L') (s : S) (bs : List Int) : Sr.Alike (appL s L klog bs) (appL s L' klog bs) := by
  unfold appL
  rw [(h klog).2]
  split
  · split
    · exact h.put _ _ _ _
    · exact h
  · exact h
def keyR (rs : List Re) (k : Int) : Nat := (rs.takeWhile fun r => decide ((r.1 : Int) < k)).length
theorem tw_map : ∀ (xs : List Xr) (rs : List Re) (k : Int), xs.map (·.1) = rs.map (fun r => (r.1 : Int)) → Tb.pl xs k = keyR rs k
  | [], [], _, _ => rfl
  | [], _ :: _, _, h => by cases h
  | _ :: _, [], _, h => by cases h
  | x :: xs, r :: rs, k, h => by
    have h1 : x.1 = (r.1 : Int) := (List.cons.inj h).1
    have h2 := tw_map xs rs k (List.cons.inj h).2
    have h3 : (xs.takeWhile fun r => decide (r.1 < k)).length = (rs.takeWhile fun r => decide ((r.1 : Int) < k)).length := h2
    show ((x :: xs).takeWhile fun r => decide (r.1 < k)).length = ((r :: rs).takeWhile fun r => decide ((r.1 : Int) < k)).length
    rw [List.takeWhile_cons, List.takeWhile_cons, h1]
    by_cases hc : (r.1 : Int) < k
    · simp only [hc, decide_true, if_true, List.length_cons, h3]
    · simp only [hc, decide_false]; rfl
theorem pl_vals {w : World} {T : Nat → Prop} {xs : List Xr} {rs : List Re} (h : Vals w T xs rs) (k : Int) : Tb.pl xs k = keyR rs k := by
  refine tw_map xs rs k (List.ext_getElem? fun i => ?_)
  rw [List.getElem?_map, List.getElem?_map]
  cases hx : xs[i]? with
  | none =>
    have h1 : rs[i]? = none := List.getElem?_eq_none (by have := List.getElem?_eq_none_iff.1 hx; rw [← h.1]; exact this)
    rw [h1]; rfl
  | some x =>
    have hi : i < rs.length := by rw [← h.1]; exact (List.getElem?_eq_some_iff.1 hx).1
    rw [List.getElem?_eq_getElem hi]
    simp only [Option.map_some, Option.some.injEq]
    exact (h.2 i x _ hx (List.getElem?_eq_getElem hi)).1
/-- A store with room for a thousand bytes that is not armed. -/
def US (u : Int) : S := ⟨false, 0, false, 1000, u⟩
theorem us_app (u : Int) (m : Nat) (h : u + m ≤ 1000) : appE (US u) klog m = 0 ∧ appS (US u) klog m = US (u + m) := by
  have e1 : rdy (US u).d [klog] = 0 := okLog
  have e2 : ¬ (US u).room < (US u).used + (m : Int) := by unfold US; simp; omega
  have e3 : useS (US u) (m : Int) = US u := rfl
  have e4 : useN (US u) (m : Int) = m := by simp [useN, US]
  refine ⟨?_, ?_⟩
  · unfold appE
    rw [e1, if_neg (by decide), if_neg e2, e3]
    rfl
  · unfold appS
    rw [if_pos ⟨e1, e2⟩, e3, e4, if_pos (by omega)]
    rfl
theorem us_appL (u : Int) (L : List Fi) (bs : List Int) (h : u + bs.length ≤ 1000) : appL (US u) L klog bs = putL L klog (dv, bytL L klog ++ bs) := by
  have e1 : rdy (US u).d [klog] = 0 := okLog
  have e2 : ¬ (US u).room < (US u).used + (bs.length : Int) := by unfold US; simp; omega
  have e4 : useN (US u) (bs.length : Int) = bs.length := by simp [useN, US]
  unfold appL
  rw [if_pos ⟨e1, e2⟩, e4, if_pos (by omega)]
  simp
section
variable {w : World} {p j t nx : Nat} {u : Int} {mb : Option Nat} {L : List Fi} {sv : Value} {xs : List Xr} {rs : List Re}
theorem k_open (h : StR w p (US 0) none []) : Calls Tryz.prog 26 #[.pointer (some ⟨p, 0, none⟩)] w fun e w' => ∃ j t sv xs mb' L', e = .returned (.tuple #[.pointer (some ⟨j, 0, none⟩), .int .i64 0]) ∧ JSt w' p (US 0) mb' L' j t true 0 sv xs [] ∧ Sr.Alike [] L' ∧ Off (fun i => i = p) w w' ∧ (∀ i, Tj p mb' L' j t sv i → i = p ∨ w.heap.size ≤ i) := by
  have e0 : bytL ([] : List Fi) klog = [] := rfl
  have hc : cnt [] = [] := by unfold cnt allF; rfl
  have ho := open_ok h rfl (by rw [e0]; decide) (by rw [e0]; intro x hx; cases hx) (by rw [e0, hc]; intro h1; exact absurd h1 (by decide))
  rw [e0, hc] at ho
  refine ho.mono ?_
  rintro e w' ⟨j, t, sv, xs, mb', L', rfl, hj, hal, hoff, hn, hn2⟩
  refine ⟨j, t, sv, xs, mb', L', rfl, hj, hal, hoff.mono (fun i hi => own_nil hi), fun i hi => ?_⟩
  rcases hi with hi | hi
  · exact (hn i hi).imp (fun e => own_nil e) id
  · exact .inr (hn2 i hi)
theorem k_app (h : JSt w p (US u) mb L j t true nx sv xs rs) (c : Int) (hc : 0 ≤ c ∧ c < 256) {m : Nat} (hm : (recF nx [c]).length = m) (hu : u + m ≤ 1000) (hnx : nx ≤ 4611686018427387903) (hx : xs.length < 900) :
    Calls Tryz.prog 29 #[.pointer (some ⟨j, 0, none⟩), .slice (some ⟨w.heap.size, 0, none⟩) 1 1] (w.alloc (.cells #[.int .u8 c] 5 (1, 2))) fun e w' => e = .returned (.tuple #[.int .i64 (nx : Int), .int .i64 0]) ∧ JMv w w' p mb L j t sv t (fun mb' L' sv' => ∃ xs', JSt w' p (US (u + m)) mb' L' j t true (nx + 1) sv' xs' (rs ++ [(nx, [c])]) ∧ Sr.Alike (putL L klog (dv, bytL L klog ++ recF nx [c])) L' ∧ xs'.length = xs.length + 1) := by
  have hal : Below w.heap.size w (w.alloc (.cells #[.int .u8 c] 5 (1, 2))) := alloc_below _ _
  have hb : BAt (w.alloc (.cells #[.int .u8 c] 5 (1, 2))) (.slice (some ⟨w.heap.size, 0, none⟩) 1 1) [c] := lit_at w [c] (1, 2)
  have ha := append_ok (h.below hal) hb (fun x hx => by simp at hx; omega) (fun hp a n c' ha ht => by
    cases ha
    have := h.tj_lt ht
    exact absurd this (Nat.lt_irrefl _)) (by decide) hnx hx (by rw [hm]; exact (us_app u m hu).1)
  rw [hm, (us_app u m hu).2, us_appL u L _ (by rw [hm]; exact hu)] at ha
  refine ha.mono ?_
  rintro e w' ⟨rfl, hmv⟩
  exact ⟨rfl, JMv.below hal hmv⟩
def kB : List Int := recF 0 [120] ++ recF 1 [121]
theorem kB_num : (recF 0 [120]).length = 10 ∧ (recF 1 [121]).length = 10 ∧ (recF 2 [122]).length = 10 := by decide
theorem k_rp (L : List Fi) (hk : KeysL L) (ha : Sr.Alike [(klog, dv, kB)] L) : rpE (US 20) L (recF 1 [121]) = 0 ∧ rpS (US 20) L (recF 1 [121]) = US 10 := by
  have h1 := rp_alike ha (List.pairwise_singleton _ _) hk (US 20) (recF 1 [121])
  rw [h1.1, h1.2.1]
  exact ⟨by decide, by kernel_rfl⟩
theorem k_trim (h : JSt w p (US 20) mb L j t true 2 sv xs [(0, [120]), (1, [121])]) (ha : Sr.Alike [(klog, dv, kB)] L) : Calls Tryz.prog 34 #[.pointer (some ⟨j, 0, none⟩), .int .i64 1] w fun e w' => e = .returned (.int .i64 0) ∧ ∃ t', JMv w w' p mb L j t sv t' (fun mb' L' sv' => ∃ xs', JSt w' p (US 10) mb' L' j t' true 2 sv' xs' [(1, [121])]) := by
  have hpl : Tb.pl xs 1 = 1 := (pl_vals h.jr.vals 1).trans (by decide)
  have e1 : ([(0, [120]), (1, [121])] : List Re).drop (Tb.pl xs 1) = [(1, [121])] := by rw [hpl]; rfl
  have ht := trim_any h 1 (fun r hr => by
    simp at hr
    rcases hr with rfl | rfl <;> exact ⟨by decide, fun x hx => by simp at hx; omega⟩) (by rw [e1]; decide)
  have e2 : (frs [(1, [121])]).flatten = recF 1 [121] := by simp [frs]
  obtain ⟨e3, e4⟩ := k_rp L h.st.keys ha
  rw [e1, e2, e3, e4] at ht
  refine ht.mono ?_
  rintro e w' ⟨rfl, t', mb', L', sv', ⟨xs', hj, _⟩, ho, hn⟩
  exact ⟨rfl, t', mb', L', sv', ⟨xs', hj⟩, ho, hn⟩
end
end Go.Proofs.YtjijgoflbjbnfaaGreat.Jo

namespace Go.Proofs.YtjijgoflbjbnfaaGreat.Vt
open Go.RowKit Fr Sr Jo

def Small (l : List Int) : Prop := bok l ∧ l.length ≤ 60
/-- pk in the snapshot, rs in the journal: together ls. -/
structure Inv (pk : List (List Int)) (rs : List Re) (nx : Nat) (ls : List (List Int)) : Prop where
  sq : ∃ a, Sq a rs ∧ a + rs.length = nx ∧ a ≤ pk.length ∧ ls = pk ++ (rs.drop (pk.length - a)).map (·.2)
  le : pk.length ≤ nx
  bp : ∀ b ∈ pk, Small b
  br : ∀ r ∈ rs, Small r.2
  few : nx ≤ 99
theorem Inv.len {pk : List (List Int)} {rs : List Re} {nx : Nat} {ls : List (List Int)} (h : Inv pk rs nx ls) : ls.length = nx := by
  obtain ⟨a, h1, h2, h3, h4⟩ := h.sq
  have := h.le
  rw [h4, List.length_append, List.length_map, List.length_drop]
  omega
theorem Inv.bl {pk : List (List Int)} {rs : List Re} {nx : Nat} {ls : List (List Int)} (h : Inv pk rs nx ls) : ∀ l ∈ ls, Small l := fun l hl => by
  obtain ⟨a, h1, h2, h3, h4⟩ := h.sq
  rw [h4] at hl
  rcases List.mem_append.1 hl with h5 | h5
  · exact h.bp l h5
  · obtain ⟨r, hr, rfl⟩ := List.mem_map.1 h5
    exact h.br r (List.mem_of_mem_drop hr)
theorem sq_key : ∀ (rs : List Re) (a k : Nat), Sq a rs → keyR rs (k : Int) = min (k - a) rs.length
  | [], a, k, _ => by simp [keyR]
  | r :: rs, a, k, h => by
    have ih := sq_key rs (a + 1) k h.2
    unfold keyR at ih ⊢
    rw [List.takeWhile_cons, List.length_cons, h.1]
    by_cases hk : a < k
    · rw [if_pos (by simp; omega), List.length_cons, ih]; omega
    · rw [if_neg (by simp; omega)]
      have : k - a = 0 := by omega
      rw [this]; simp
theorem Inv.key {pk : List (List Int)} {rs : List Re} {nx : Nat} {ls : List (List Int)} (h : Inv pk rs nx ls) : pk ++ (rs.drop (keyR rs (pk.length : Int))).map (·.2) = ls := by
  obtain ⟨a, h1, h2, h3, h4⟩ := h.sq
  have := h.le
  rw [sq_key rs a _ h1, h4, Nat.min_eq_left (by omega)]
theorem sq_snoc2 : ∀ (rs : List Re) (a : Nat) (l : List Int), Sq a rs → Sq a (rs ++ [(a + rs.length, l)])
  | [], a, l, _ => ⟨rfl, trivial⟩
  | r :: rs, a, l, h => by
    refine ⟨h.1, ?_⟩
    have h1 := sq_snoc2 rs (a + 1) l h.2
    have e : a + 1 + rs.length = a + (r :: rs).length := by rw [List.length_cons]; omega
    rw [e] at h1
    exact h1
/-- One more. -/
theorem Inv.add {pk : List (List Int)} {rs : List Re} {nx : Nat} {ls : List (List Int)} (h : Inv pk rs nx ls) {l : List Int} (hl : Small l) (hx : nx < 99) : Inv pk (rs ++ [(nx, l)]) (nx + 1) (ls ++ [l]) := by
  obtain ⟨a, h1, h2, h3, h4⟩ := h.sq
  have hle := h.le
  refine ⟨⟨a, ?_, by rw [List.length_append]; simp; omega, h3, ?_⟩, by omega, h.bp, fun r hr => ?_, by omega⟩
  · have := sq_snoc2 rs a l h1
    rwa [h2] at this
  · rw [List.drop_append_of_le_length (by omega), List.map_append, h4]
    simp
  · rcases List.mem_append.1 hr with h5 | h5
    · exact h.br r h5
    · simp at h5
      rw [h5]; exact hl
/-- All in the snapshot. -/
theorem Inv.pack {pk : List (List Int)} {rs : List Re} {nx : Nat} {ls : List (List Int)} (h : Inv pk rs nx ls) : Inv ls rs nx ls := by
  obtain ⟨a, h1, h2, h3, h4⟩ := h.sq
  have hle := h.le
  have hlen := h.len
  refine ⟨⟨a, h1, h2, by omega, ?_⟩, by omega, h.bl, h.br, h.few⟩
  rw [List.drop_eq_nil_of_le (by omega)]
  simp
theorem Inv.packed {pk : List (List Int)} {rs : List Re} {nx : Nat} {ls : List (List Int)} (h : Inv pk rs nx ls) : Inv ls [] nx ls :=
  ⟨⟨nx, trivial, by simp, by rw [h.len]; exact Nat.le_refl _, by simp⟩, by rw [h.len]; exact Nat.le_refl _, h.bl, fun r hr => (by cases hr), h.few⟩
theorem nxt_cks : ∀ (rs : List Re) (a q : Nat), Sq a rs → rs ≠ [] → nxt (cks q rs) = a + rs.length
  | [], _, _, _, h => absurd rfl h
  | [r], a, q, h, _ => by
    have : nxt (cks q [r]) = r.1 + 1 := rfl
    rw [this, h.1]; rfl
  | r :: r2 :: l, a, q, h, _ => by
    have ih := nxt_cks (r2 :: l) (a + 1) (q + (recF r.1 r.2).length) h.2 (by simp)
    have e : nxt (cks q (r :: r2 :: l)) = nxt (cks (q + (recF r.1 r.2).length) (r2 :: l)) := by
      rw [cks]
      exact nxt_cons _ _ (by simp [cks])
    rw [e, ih]
    simp only [List.length_cons]; omega
/-- Opened again: what the journal says goes with the snapshot. -/
theorem Inv.join {pk : List (List Int)} {rs : List Re} {nx : Nat} {ls : List (List Int)} (h : Inv pk rs nx ls) (q : Nat) : (rs = [] → pk.length = nx) ∧ (rs ≠ [] → nxt (cks q rs) = nx ∧ ∀ r t, rs = r :: t → r.1 ≤ pk.length) := by
  obtain ⟨a, h1, h2, h3, h4⟩ := h.sq
  have hle := h.le
  refine ⟨fun e => ?_, fun e => ⟨by rw [nxt_cks rs a q h1 e, h2], fun r t ht => ?_⟩⟩
  · subst e
    simp at h2; omega
  · rw [ht] at h1
    rw [h1.1]; exact h3
theorem small_recF {nx : Nat} {l : List Int} (hx : nx < 128) : (recF nx l).length = 9 + l.length := by
  rw [recF_len]
  have : (Oc.grp nx).length = 1 := by unfold Oc.grp; rw [Oc.grpF_one hx]; rfl
  omega
theorem flat_sm {ls : List (List Int)} (h : ∀ l ∈ ls, Small l) : (Sp.flat ls).length ≤ 70 * ls.length := by
  induction ls with
  | nil => simp [Sp.flat]
  | cons l ls ih =>
    have h1 := ih fun m hm => h m (by simp [hm])
    have h2 := (h l (by simp)).2
    have h3 := (Oc.grp_len l.length).1
    have e : Sp.flat (l :: ls) = Sp.recB l ++ Sp.flat ls := by simp [Sp.flat]
    rw [e, List.length_append, List.length_cons]
    unfold Sp.recB
    rw [List.length_append]
    omega
theorem small_tot {ls : List (List Int)} (h : ∀ l ∈ ls, Small l) (hn : ls.length ≤ 99) : Sp.tot ls ≤ 18 + 70 * ls.length ∧ Sp.fitsS ls = true := by
  have h3 := flat_sm h
  have h4 := (Oc.grp_len ls.length).1
  have h5 : Sp.tot ls ≤ 18 + 70 * ls.length := by unfold Sp.tot Sp.bodyS; rw [List.length_append]; omega
  exact ⟨h5, decide_eq_true ⟨by omega, by omega⟩⟩
/-- What a store has of these. -/
structure Fil (L : List Fi) (rs : List Re) (pk : List (List Int)) : Prop where
  has : Has L rs
  dec : Sp.decL (bytL L ksnap) = pk
  bok : bok (bytL L ksnap)
theorem Fil.alike {L L' : List Fi} {rs : List Re} {pk : List (List Int)} (h : Fil L rs pk) (ha : Sr.Alike L L') : Fil L' rs pk := ⟨h.has.alike ha, by rw [(ha ksnap).2]; exact h.dec, by rw [(ha ksnap).2]; exact h.bok⟩
theorem klog_snap : ¬ klog = ksnap := by decide
theorem Inv.bnd {pk : List (List Int)} {rs : List Re} {nx : Nat} {ls : List (List Int)} (h : Inv pk rs nx ls) : Bnd rs := fun r hr => by
  obtain ⟨a, h1, h2, h3, h4⟩ := h.sq
  have h5 := (h.br r hr).2
  have h6 : ∀ (rs : List Re) (a : Nat), Sq a rs → ∀ r ∈ rs, r.1 < a + rs.length := by
    intro rs
    induction rs with
    | nil => intro a _ r hr; cases hr
    | cons q l ih =>
      intro a h r hr
      rw [List.length_cons]
      rcases List.mem_cons.1 hr with e | hr
      · rw [e, h.1]; omega
      · have := ih (a + 1) h.2 r hr; omega
  have h7 := h6 rs a h1 r hr
  have h8 := h.few
  exact ⟨by omega, by omega⟩
end Go.Proofs.YtjijgoflbjbnfaaGreat.Vt

namespace Go.Proofs.YtjijgoflbjbnfaaGreat.Jo
open Go.RowKit Fr Sr
section
variable {w w' w2 : World} {p j t nx : Nat} {s s2 : S} {mb mb' : Option Nat} {L L' L2 : List Fi} {snd : Bool} {sv : Value} {xs : List Xr} {rs : List Re}
set_option maxRecDepth 100000 in
set_option maxHeartbeats 4000000 in
/-- Append, and where the new record's bytes lie. -/
theorem append_ok2 (h : JSt w p s mb L j t true nx sv xs rs) {A : Option Addr} {n c : Nat} {l : List Int} (hb : BAt w (.slice A n c) l) (hbk : bok l) (hfr : BK (fun k => ¬ Tj p mb L j t sv k) (.slice A n c) l) (hn : n ≤ 1000) (hnx : nx ≤ 4611686018427387903) (hx : xs.length < 900) (hE : appE s klog (recF nx l).length = 0) :
    Calls Tryz.prog 29 #[.pointer (some ⟨j, 0, none⟩), .slice A n c] w fun e w' => e = .returned (.tuple #[.int .i64 (nx : Int), .int .i64 0]) ∧ JMv w w' p mb L j t sv t (fun mb' L' sv' => ∃ xs', JSt w' p (appS s klog (recF nx l).length) mb' L' j t true (nx + 1) sv' xs' (rs ++ [(nx, l)]) ∧ Sr.Alike (appL s L klog (recF nx l)) L' ∧ ∃ y : Xr, xs' = xs ++ [y] ∧ BK (fun i => w.heap.size ≤ i) (bval y.2) l) := by
  have HSO := Lib.hid (sound_any h)
  have HSE := Lib.hid (seal_any w nx A n c l hb hbk hn (by omega))
  obtain ⟨⟨c0, c1, c2, c3⟩, _⟩ := four h.jr.blk
  obtain ⟨fl, hfl⟩ : ∃ fl, fl = recF nx l := ⟨_, rfl⟩
  have HFL := Lib.hid hfl
  rw [← hfl] at HSE hE ⊢
  have hflen : fl.length ≤ 1018 := by
    rw [hfl, recF_len]
    have := (Oc.grp_len nx).1
    have := hb.len.1
    omega
  have HFN := Lib.hid hflen
  have HH := Lib.hid (And.intro h (And.intro hb (And.intro hfr (And.intro hx hE))))
  have hz : ¬ ((4611686018427387903 : Int) < (nx : Int)) := by omega
  clear h hb hbk hfr hx hE hfl hflen
  go_enter Tryz.func29, Tryz.ntmps29
  go_wp2_with (first
    | (go_at_call 51; (with_reducible refine HPU.out.mono ?_); rintro e w5 ⟨rfl, hp5⟩; have HP5 := Lib.hid hp5; clear hp5)
    | (go_at_call 38; (with_reducible refine HCL.out.mono ?_); rintro e w4 ⟨A4, c4, rfl, ⟨hb4, hk4⟩, hbl4⟩
       have HB4 := Lib.hid hbl4
       have HK4 : Hid (BK (fun i => w.heap.size ≤ i) (.slice A4 n c4) l) := fun hp a n c ha => Nat.le_trans HB2.out.size (Nat.le_trans HJ3.out.2.2.1.1.size (hk4 hp a n c ha))
       obtain ⟨hj3, hlow⟩ := HJ3.out
       have hj4 := hj3.below hbl4
       have HPU := Lib.hid (jput_any (n := nx) hj4 (fun x hx => hj4.jr.lt x hx) (by omega) hnx (by have := HH.out.2.2.2.1; omega) hb4 (fun hp a n c ha ht => by
         have h1 : w3.heap.size ≤ a.block := hk4 hp a n c ha
         have h2 := hj3.tj_lt ht
         omega))
       clear hb4 hk4 hbl4 hj3 hlow hj4)
    | (go_at_call 58; (with_reducible refine HAD.out.mono ?_); rintro e w3 ⟨rfl, mb', L', sv', ⟨rfl, hj3, hal3⟩, ho3, hn3⟩
       have hbase := HB2.out.size
       have HCL := Lib.hid (clone_atK w3 A n c l (bat_step (HH.out.2.1.kept HB2.out) ho3 (fun hp a n c ha hs => HH.out.2.2.1 hp a n c ha hs)) (by omega))
       have hj3' : JSt w3 p (appS s klog fl.length) mb' L' j t true nx sv xs rs := hj3
       have HJ3 := Lib.hid (And.intro hj3' (And.intro hal3 (And.intro ho3 hn3)))
       clear hj3 hal3 ho3 hn3 hbase hj3')
    | (go_at_call 57; (with_reducible refine HSE.out.mono ?_); rintro e w2 ⟨A2, q2, c2', rfl, hq2, ⟨hb2, hk2⟩, hbl2⟩
       subst hq2
       have HB2 := Lib.hid hbl2
       have hj2 := HH.out.1.below hbl2
       have had := add_any hj2 hb2 (fun hp a n c ha ht => by
         have h1 : w.heap.size ≤ a.block := hk2 hp a n c ha
         have h2 := HH.out.1.tj_lt ht
         omega) (by have := HFN.out; omega)
       rw [HH.out.2.2.2.2] at had
       have HAD := Lib.hid had
       clear hb2 hk2 hbl2 hj2 had)
    | (go_at_call 56; (with_reducible refine HSO.out.mono ?_); rintro e w' ⟨rfl, rfl⟩))
  go_ret2
  obtain ⟨sv', hq, ho5, hn5⟩ := HP5.out
  obtain ⟨_, hal, ho3, hn3⟩ := HJ3.out
  refine ⟨rfl, JMv.below HB2.out (JMv.trans ho3 hn3 (JMv.below HB4.out ⟨mb', L', sv', ⟨_, hq, hal, _, rfl, HK4.out⟩, off_two ho5 (Off.refl (fun _ => False) _) (fun i hi => .inr hi) (fun _ h => h.elim), fun i hi => ?_⟩))⟩
  rcases hi with hi | hi
  · exact .inl (.inl hi)
  · exact (hn5 i hi).imp .inr id
end
end Go.Proofs.YtjijgoflbjbnfaaGreat.Jo

namespace Go.Proofs.YtjijgoflbjbnfaaGreat.Vt
open Go.RowKit Fr Sr Jo Sp

/-- Slices of bytes that lie outside of T. -/
def RowsT (T : Nat → Prop) (w : World) (v : Value) (bs : List (List Int)) : Prop := ∃ A cap, v = .slice A bs.length cap ∧ (0 < bs.length → ∃ g o, A = some ⟨g, o, none⟩ ∧ ¬ T g ∧ g < w.heap.size ∧ ∀ (i : Nat) (b : List Int), bs[i]? = some b → ∃ u, w.cell? ⟨g, o + i, none⟩ = some u ∧ BAt w u b ∧ BK (fun k => ¬ T k) u b)
theorem RowsT.toA {T : Nat → Prop} {w : World} {v : Value} {bs : List (List Int)} (h : RowsT T w v bs) : RowsA w v bs := by
  obtain ⟨A, cap, e, h1⟩ := h
  refine ⟨A, cap, e, fun hp => ?_⟩
  obtain ⟨g, o, e2, _, hg, h2⟩ := h1 hp
  refine ⟨g, o, e2, hg, fun i b hi => ?_⟩
  obtain ⟨u, h3, h4, _⟩ := h2 i b hi
  exact ⟨u, h3, h4⟩
theorem RowsT.mono {T T' : Nat → Prop} {w : World} {v : Value} {bs : List (List Int)} (h : RowsT T w v bs) (hT : ∀ i, T' i → i < w.heap.size → T i) : RowsT T' w v bs := by
  obtain ⟨A, cap, e, h1⟩ := h
  refine ⟨A, cap, e, fun hp => ?_⟩
  obtain ⟨g, o, e2, hn, hg, h2⟩ := h1 hp
  refine ⟨g, o, e2, fun h => hn (hT g h hg), hg, fun i b hi => ?_⟩
  obtain ⟨u, h3, h4, h5⟩ := h2 i b hi
  exact ⟨u, h3, h4, fun hp a n c ha ht => h5 hp a n c ha (hT _ ht (bat_lt h4 hp ha))⟩
theorem RowsT.step {S T T' : Nat → Prop} {w w' : World} {v : Value} {bs : List (List Int)} (h : RowsT T w v bs) (ho : Off S w w') (hS : ∀ i, S i → T i) (hT : ∀ i, T' i → T i ∨ w.heap.size ≤ i) : RowsT T' w' v bs := by
  obtain ⟨A, cap, e, h1⟩ := h
  refine ⟨A, cap, e, fun hp => ?_⟩
  obtain ⟨g, o, e2, hn, hg, h2⟩ := h1 hp
  refine ⟨g, o, e2, fun h => (hT g h).elim hn (fun h3 => by omega), Nat.lt_of_lt_of_le hg ho.1.size, fun i b hi => ?_⟩
  obtain ⟨u, h3, h4, h5⟩ := h2 i b hi
  refine ⟨u, ?_, bat_step h4 ho (fun hp a n c ha hs => h5 hp a n c ha (hS _ hs)), fun hp a n c ha ht => ?_⟩
  · have h6 := ho.2 g hg (fun hs => hn (hS g hs))
    simp only [World.cell?] at h3 ⊢
    rw [h6]; exact h3
  · have := bat_lt h4 hp ha
    exact (hT _ ht).elim (h5 hp a n c ha) (fun h3 => by omega)
theorem RowsF.toT {N : Nat} {T : Nat → Prop} {w : World} {v : Value} {bs : List (List Int)} (h : RowsF N w v bs) (hT : ∀ i, T i → i < N) : RowsT T w v bs := by
  obtain ⟨A, cap, e, h1⟩ := h
  refine ⟨A, cap, e, fun hp => ?_⟩
  obtain ⟨g, o, e2, hn, hg, h2⟩ := h1 hp
  refine ⟨g, o, e2, fun h => by have := hT g h; omega, hg, fun i b hi => ?_⟩
  obtain ⟨u, h3, h4, h5⟩ := h2 i b hi
  exact ⟨u, h3, h4, fun hp a n c ha ht => by have := h5 hp a n c ha; have := hT _ ht; omega⟩
theorem RowsT.nil (T : Nat → Prop) (w : World) (A : Option Addr) (c : Nat) : RowsT T w (.slice A 0 c) [] := ⟨A, c, rfl, fun h => absurd h (Nat.lt_irrefl 0)⟩
theorem rowsT_len {T : Nat → Prop} {w : World} {A : Option Addr} {n c : Nat} {ls : List (List Int)} (h : RowsT T w (.slice A n c) ls) : n = ls.length := by
  obtain ⟨A', cap, e, _⟩ := h
  cases e; rfl
/-- No bytes lie in S. -/
def NoB (w : World) (S : Nat → Prop) : Prop := ∀ i, S i → ∀ k x, w.cell? ⟨i, k, none⟩ ≠ some (.int .u8 x)
theorem bk_nob {w : World} {S : Nat → Prop} {v : Value} {l : List Int} (h : BAt w v l) (hn : NoB w S) : BK (fun k => ¬ S k) v l := fun hp a n c ha hs => by
  obtain ⟨A, cap, e1, _, e3⟩ := h
  obtain ⟨g, o, e4, e5, e6⟩ := e3 hp
  rw [e1, e4] at ha
  cases ha
  exact hn g hs _ _ (e6 0 hp)
theorem bat_off {w w' : World} {S : Nat → Prop} {v : Value} {l : List Int} (h : BAt w v l) (ho : Off S w w') (hn : NoB w S) : BAt w' v l := bat_step h ho (bk_nob h hn)
theorem nob_none (w : World) : NoB w (fun _ => False) := fun _ h => h.elim
section
variable {w w' : World} {p j t t' nx nx' vb n c fr n' c' fr' : Nat} {s s' : S} {mb mb' : Option Nat} {L L' : List Fi} {jn jn' sd sd' : Bool} {sv sv' : Value} {xs xs' : List Xr} {rs rs' : List Re} {A A' : Option Addr} {pk pk' : List (List Int)} {Z : Nat → Prop}
/-- What lies outside of a journal turns, no bytes among it. -/
theorem jst_off {S : Nat → Prop} (h : JSt w p s mb L j t jn nx sv xs rs) (ho : Off S w w') (h1 : ∀ i, Tj p mb L j t sv i → ¬ S i) (hn : NoB w S) : JSt w' p s mb L j t jn nx sv xs rs := by
  refine ⟨h.st.kept ho (fun i hi => h1 i (.inl hi)), ⟨(ho.2 j (h.jr.oj_lt (.inl rfl)) (h1 j (.inr (.inl rfl)))).trans h.jr.blk, h.jr.tab.kept (kept_of_off ho) (h1 t (.inr (.inr (.inl rfl)))) (fun g hg => h1 g (.inr (.inr (.inr hg)))), ⟨h.jr.vals.1, fun i x r hx hr => ?_⟩, h.jr.asc, h.jr.lt, h.jr.few, h.jr.nxl⟩, h.sep⟩
  obtain ⟨a1, a2, a3⟩ := h.jr.vals.2 i x r hx hr
  exact ⟨a1, bat_off a2 ho hn, a3⟩
/-- The cells of a vault. -/
abbrev vcells (p : Nat) (A : Option Addr) (n c j fr : Nat) (sd : Bool) : Obj := .cells #[.pointer (some ⟨p, 0, none⟩), .slice A n c, .pointer (some ⟨j, 0, none⟩), .int .i64 (fr : Int), .bool sd] 67 (0, 0)
/-- A vault: Z has all its blocks. -/
structure VaX (w : World) (Z : Nat → Prop) (p vb : Nat) (s : S) (mb : Option Nat) (L : List Fi) (j t : Nat) (jn : Bool) (nx : Nat) (sv : Value) (xs : List Xr) (rs : List Re) (A : Option Addr) (n c : Nat) (pk : List (List Int)) (fr : Nat) (sd : Bool) : Prop where
  js : JSt w p s mb L j t jn nx sv xs rs
  blk : w.heap[vb]? = some (vcells p A n c j fr sd)
  row : RowsT (fun k => Tj p mb L j t sv k ∨ k = vb) w (.slice A n c) pk
  zo : ∀ i, Tj p mb L j t sv i → Z i
  zv : Z vb
  zr : 0 < pk.length → ∀ a, A = some a → Z a.block
  vn : ¬ Tj p mb L j t sv vb
  zl : ∀ i, Z i → i < w.heap.size
/-- Z, and all that is new. -/
def Zn (Z : Nat → Prop) (w w' : World) (k : Nat) : Prop := Z k ∨ (w.heap.size ≤ k ∧ k < w'.heap.size)
theorem VaX.below (h : VaX w Z p vb s mb L j t jn nx sv xs rs A n c pk fr sd) (hb : Below w.heap.size w w') : VaX w' Z p vb s mb L j t jn nx sv xs rs A n c pk fr sd :=
  ⟨h.js.below hb, block_kept h.blk hb, h.row.step (Off.of_below (fun _ => False) hb) (fun _ e => e.elim) (fun _ e => .inl e), h.zo, h.zv, h.zr, h.vn, fun i hi => Nat.lt_of_lt_of_le (h.zl i hi) hb.size⟩
/-- The journal has turned. -/
theorem VaX.turn (h : VaX w Z p vb s mb L j t jn nx sv xs rs A n c pk fr sd) (ho : Off (Tj p mb L j t sv) w w') (hn : ∀ i, Tj p mb' L' j t' sv' i → Tj p mb L j t sv i ∨ w.heap.size ≤ i) (hj : JSt w' p s' mb' L' j t' jn' nx' sv' xs' rs') : VaX w' (Zn Z w w') p vb s' mb' L' j t' jn' nx' sv' xs' rs' A n c pk fr sd := by
  have hv := h.zl vb h.zv
  refine ⟨hj, (ho.2 vb hv h.vn).trans h.blk, h.row.step ho (fun i hi => .inl hi) (fun i hi => ?_), fun i hi => ?_, .inl h.zv, fun hp a ha => .inl (h.zr hp a ha), fun hi => ?_, fun i hi => ?_⟩
  · rcases hi with hi | hi
    · exact (hn i hi).imp .inl id
    · exact .inl (.inr hi)
  · rcases hn i hi with h1 | h1
    · exact .inl (h.zo i h1)
    · exact .inr ⟨h1, hj.tj_lt hi⟩
  · rcases hn vb hi with h1 | h1
    · exact h.vn h1
    · omega
  · rcases hi with hi | hi
    · exact Nat.lt_of_lt_of_le (h.zl i hi) ho.1.size
    · exact hi.2
/-- What lies outside of a vault turns, no bytes among it. -/
theorem VaX.off {S : Nat → Prop} (h : VaX w Z p vb s mb L j t jn nx sv xs rs A n c pk fr sd) (ho : Off S w w') (hZ : ∀ k, Z k → ¬ S k) (hn : NoB w S) : VaX w' Z p vb s mb L j t jn nx sv xs rs A n c pk fr sd := by
  refine ⟨jst_off h.js ho (fun i hi => hZ i (h.zo i hi)) hn, (ho.2 vb (h.zl vb h.zv) (hZ vb h.zv)).trans h.blk, ?_, h.zo, h.zv, h.zr, h.vn, fun i hi => Nat.lt_of_lt_of_le (h.zl i hi) ho.1.size⟩
  obtain ⟨A1, cap, e, h1⟩ := h.row
  refine ⟨A1, cap, e, fun hp => ?_⟩
  obtain ⟨g, o, e2, hg0, hg, h2⟩ := h1 hp
  refine ⟨g, o, e2, hg0, Nat.lt_of_lt_of_le hg ho.1.size, fun i b hi => ?_⟩
  obtain ⟨u, h3, h4, h5⟩ := h2 i b hi
  have hgZ : Z g := h.zr hp ⟨g, o, none⟩ (by cases e; exact e2)
  refine ⟨u, ?_, bat_off h4 ho hn, h5⟩
  have h6 := ho.2 g hg (hZ g hgZ)
  simp only [World.cell?] at h3 ⊢
  rw [h6]; exact h3
theorem VaX.nob (h : VaX w Z p vb s mb L j t jn nx sv xs rs A n c pk fr sd) : NoB w (fun i => i = vb) := fun i hi k x hc => by
  subst hi
  simp only [World.cell?, h.blk] at hc
  match k with
  | 0 => simp at hc
  | 1 => simp at hc
  | 2 => simp at hc
  | 3 => simp at hc
  | 4 => simp at hc
  | k + 5 => simp at hc
/-- The vault's own block is written. -/
theorem VaX.put (h : VaX w Z p vb s mb L j t jn nx sv xs rs A n c pk fr sd) (ho : Off (fun i => i = vb) w w') (hb : w'.heap[vb]? = some (vcells p A' n' c' j fr' sd')) (hr : RowsT (fun k => Tj p mb L j t sv k ∨ k = vb) w (.slice A' n' c') pk') (hz : 0 < pk'.length → ∀ a, A' = some a → Z a.block) : VaX w' Z p vb s mb L j t jn nx sv xs rs A' n' c' pk' fr' sd' :=
  ⟨jst_off h.js ho (fun i hi e => h.vn (by rw [← e]; exact hi)) h.nob, hb, hr.step ho (fun i e => .inr e) (fun i e => .inl e), h.zo, h.zv, hz, h.vn, fun i hi => Nat.lt_of_lt_of_le (h.zl i hi) ho.1.size⟩
theorem VaX.zn (h : VaX w Z p vb s mb L j t jn nx sv xs rs A n c pk fr sd) {Z' : Nat → Prop} (h1 : ∀ i, Z i → Z' i) (h2 : ∀ i, Z' i → i < w.heap.size) : VaX w Z' p vb s mb L j t jn nx sv xs rs A n c pk fr sd :=
  ⟨h.js, h.blk, h.row, fun i hi => h1 i (h.zo i hi), h1 _ h.zv, fun hp a ha => h1 _ (h.zr hp a ha), h.vn, h2⟩
end
/-- Five cells. -/
theorem five {w : World} {b : Nat} {x0 x1 x2 x3 x4 : Value} {ty : TypeId} (h : w.heap[b]? = some (.cells #[x0, x1, x2, x3, x4] ty (0, 0))) : (w.cell? ⟨b, 0, none⟩ = some x0 ∧ w.cell? ⟨b, 1, none⟩ = some x1 ∧ w.cell? ⟨b, 2, none⟩ = some x2 ∧ w.cell? ⟨b, 3, none⟩ = some x3 ∧ w.cell? ⟨b, 4, none⟩ = some x4) ∧ (w.frozen? ⟨b, 0, none⟩ = false ∧ w.frozen? ⟨b, 1, none⟩ = false ∧ w.frozen? ⟨b, 2, none⟩ = false ∧ w.frozen? ⟨b, 3, none⟩ = false ∧ w.frozen? ⟨b, 4, none⟩ = false) := by
  refine ⟨⟨?_, ?_, ?_, ?_, ?_⟩, ?_, ?_, ?_, ?_, ?_⟩ <;> simp [World.cell?, World.frozen?, h]
end Go.Proofs.YtjijgoflbjbnfaaGreat.Vt
