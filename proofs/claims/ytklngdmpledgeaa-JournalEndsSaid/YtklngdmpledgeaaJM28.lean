/-
  What a store that dies under a journal's change has, looked at anew. Conditions: at most eight hundred bytes.
-/
import Derived.Test.YtklngdmpledgeaaJM27
import Derived.Test.YtklngdmpledgeaaJTrim
import Derived.Test.YtklngdmpledgeaaJM19
namespace Go.Proofs.Ytklngdmpledgeaa.Jo
open Go.RowKit Fr Sr

/-- The file of a journal: frames of records, and less than a frame. -/
def Has (L : List Fi) (rs : List Re) : Prop := ∃ t, nxE t ≠ 0 ∧ bytL L klog = (frs rs).flatten ++ t ∧ bok t ∧ (0 < (bytL L klog).length → hasL L klog = true)
theorem Has.alike {L L' : List Fi} {rs : List Re} (h : Has L rs) (ha : Sr.Alike L L') : Has L' rs := by
  obtain ⟨t, h1, h2, h3, h4⟩ := h
  exact ⟨t, h1, by rw [(ha klog).2]; exact h2, h3, by rw [(ha klog).2, (ha klog).1]; exact h4⟩
theorem frs_bok {rs : List Re} (h : Bnd rs) (hb : ∀ r ∈ rs, bok r.2) : bok (frs rs).flatten := fun x hx => by
  simp only [frs, List.mem_flatten, List.mem_map] at hx
  obtain ⟨l, ⟨r, hr, rfl⟩, hx⟩ := hx
  have h1 := (h r hr).2
  exact frF_bok (bok_app (grp_bok (by omega)) (hb r hr)) x hx
/-- Opened again there are these records. -/
theorem open_has {w : World} {p n : Nat} {st : S} {mb : Option Nat} {L : List Fi} {rs : List Re} (h : StR w p st mb L) (ha : st.a = false) (hd : st.d = false) (hh : Has L rs) (hs : Sq n rs) (hb : Bnd rs) (hbk : ∀ r ∈ rs, bok r.2) (hl : (bytL L klog).length ≤ 800) :
    Calls Try.prog 38 #[.pointer (some ⟨p, 0, none⟩)] w fun e w' => ∃ s2 L2 nx, Opened w w' p mb L s2 L2 nx rs e := by
  obtain ⟨t, h1, h2, h3, h4⟩ := hh
  have hc : cnt (bytL L klog) = cks 0 rs := by rw [h2]; exact cnt_frames h1 rs n hs hb
  have hok : bok (bytL L klog) := by rw [h2]; exact bok_app (frs_bok hb hbk) h3
  have hcE : whole (cnt (bytL L klog)) < (bytL L klog).length → cutE st L klog (whole (cnt (bytL L klog)) : Int) = 0 := fun hlt => by
    have e1 : fnd st.d L klog [klog] = 0 := by
      unfold fnd
      rw [hd, okLog, if_neg (by decide), h4 (by omega)]
      rfl
    have e2 : ¬ ((whole (cnt (bytL L klog)) : Int) < 0 ∨ ((bytL L klog).length : Int) < (whole (cnt (bytL L klog)) : Int)) := by omega
    have e3 : useS st 1 = st := by unfold useS; rw [ha]; rfl
    unfold cutE
    rw [e1, if_neg (by decide), if_neg e2, e3]
    unfold dwn; rw [hd]; rfl
  have ho := open_ok h hd hl hok hcE
  refine ho.mono fun e w' hop => ?_
  rw [hc, recs_cks] at hop
  exact ⟨_, _, _, hop⟩
end Go.Proofs.Ytklngdmpledgeaa.Jo

namespace Go.Proofs.Ytklngdmpledgeaa.Jo
open Go.RowKit Fr Sr

theorem nxE_nil : nxE [] ≠ 0 := by unfold nxE; simp
/-- The file is the frames of records, nothing behind. -/
def Cl (L : List Fi) (rs : List Re) : Prop := bytL L klog = (frs rs).flatten ∧ (0 < (bytL L klog).length → hasL L klog = true)
theorem Cl.has {L : List Fi} {rs : List Re} (h : Cl L rs) : Has L rs := ⟨[], nxE_nil, by rw [List.append_nil]; exact h.1, (fun x hx => by cases hx), h.2⟩
theorem Cl.alike {L L' : List Fi} {rs : List Re} (h : Cl L rs) (ha : Sr.Alike L L') : Cl L' rs := ⟨by rw [(ha klog).2]; exact h.1, by rw [(ha klog).2, (ha klog).1]; exact h.2⟩
theorem frs_snoc (rs : List Re) (r : Re) : (frs (rs ++ [r])).flatten = (frs rs).flatten ++ recF r.1 r.2 := by simp [frs]
theorem Cl.put (L : List Fi) {bs : List Int} {rs : List Re} (v : Value) (h : bs = (frs rs).flatten) : Cl (putL L klog (v, bs)) rs := ⟨by rw [byt_put]; simp [h], fun _ => by rw [has_put]; simp⟩
/-- A store that is armed, not down. -/
structure Ar (s : S) (u : Nat) : Prop where
  a : s.a = true
  n : s.n = u
  d : s.d = false
  room : s.room = 100000
theorem Ar.use {s : S} {u : Nat} (h : Ar s u) (m : Nat) : (u < m → useN s (m : Int) = u ∧ dwn (useS s (m : Int)) = 14) ∧ (m ≤ u → useN s (m : Int) = m ∧ dwn (useS s (m : Int)) = 0 ∧ Ar (useS s (m : Int)) (u - m)) := by
  refine ⟨fun hu => ?_, fun hu => ?_⟩
  · have h1 : s.n < (m : Int) := by rw [h.n]; omega
    refine ⟨?_, ?_⟩
    · unfold useN; rw [if_pos ⟨h.a, h1⟩, h.n]
    · unfold useS; rw [if_pos h.a, if_pos h1]; rfl
  · have h1 : ¬ s.n < (m : Int) := by rw [h.n]; omega
    refine ⟨?_, ?_, ?_⟩
    · unfold useN; rw [if_neg (fun e => h1 e.2)]
    · unfold useS; rw [if_pos h.a, if_neg h1]; unfold dwn; rw [if_neg (by rw [h.d]; decide)]
    · unfold useS; rw [if_pos h.a, if_neg h1]
      exact ⟨h.a, by show s.n - (m : Int) = _; rw [h.n]; omega, h.d, h.room⟩
theorem app_die {s : S} {u nx : Nat} {l : List Int} {L : List Fi} {rs : List Re} (h : Ar s u) (hc : Cl L rs) (hus : s.used + (recF nx l).length ≤ 100000) (hb : l.length ≤ 1000 ∧ nx ≤ 4611686018427387903) (hbk : bok l) :
    ((appE s klog (recF nx l).length = 0 ∧ Has (appL s L klog (recF nx l)) (rs ++ [(nx, l)])) ∨ (appE s klog (recF nx l).length = 14 ∧ Has (appL s L klog (recF nx l)) rs)) ∧ (bytL (appL s L klog (recF nx l)) klog).length ≤ (frs rs).flatten.length + (recF nx l).length := by
  obtain ⟨f, hf⟩ : ∃ f, f = recF nx l := ⟨_, rfl⟩
  have e1 : rdy s.d [klog] = 0 := by rw [h.d]; exact okLog
  have e2 : ¬ s.room < s.used + (f.length : Int) := by rw [h.room, hf]; omega
  rw [← hf]
  have hE : appE s klog f.length = dwn (useS s (f.length : Int)) := by
    unfold appE; rw [e1, if_neg (by decide), if_neg e2]
  have hL : appL s L klog f = (if 0 < useN s (f.length : Int) ∨ f.length = 0 then putL L klog (dv, bytL L klog ++ f.take (useN s (f.length : Int)).toNat) else L) := by
    unfold appL; rw [if_pos ⟨e1, e2⟩]
  rw [hE, hL]
  refine ⟨?_, ?_⟩
  rotate_left
  · split
    · rw [byt_put, if_pos rfl, List.length_append, hc.1]
      have := List.length_take_le (useN s (f.length : Int)).toNat f
      have h2 : (List.take (useN s (f.length : Int)).toNat f).length ≤ f.length := by rw [List.length_take]; omega
      omega
    · rw [hc.1]; omega
  rcases Nat.lt_or_ge u f.length with hu | hu
  · obtain ⟨g1, g2⟩ := (h.use f.length).1 hu
    refine .inr ⟨g2, ?_⟩
    rw [g1]
    by_cases h0 : u = 0
    · rw [if_neg (by omega)]
      exact hc.has
    · rw [if_pos (.inl (by omega))]
      refine ⟨f.take u, ?_, ?_, ?_, fun _ => by rw [has_put]; simp⟩
      · have hbd : (Oc.grp nx ++ l).length ≤ 1048568 := body_le (r := (nx, l)) hb
        have h3 := nxE_torn hbd (u := u) (by have : f.length = (frF (Oc.grp nx ++ l)).length := by rw [hf]; rfl
                                             omega)
        rw [hf]; exact h3
      · rw [byt_put]; simp [hc.1]
      · intro x hx
        have h4 := List.mem_of_mem_take hx
        rw [hf] at h4
        exact frF_bok (bok_app (grp_bok (by omega)) hbk) x h4
  · obtain ⟨g1, g2, _⟩ := (h.use f.length).2 hu
    refine .inl ⟨g2, ?_⟩
    have hf8 : 0 < f.length := by rw [hf, recF_len]; omega
    rw [g1, if_pos (.inl (by omega))]
    refine (Cl.put L dv ?_).has
    rw [frs_snoc, hc.1, ← hf]
    simp
theorem wri_klog {s : S} {L : List Fi} {bs : List Int} {rs : List Re} (h : Cl L rs) : Cl (wriL s L knew bs) rs := by
  have hne : ¬ knew = klog := by decide
  unfold wriL
  split
  · split
    · refine ⟨by rw [byt_put, if_neg hne]; exact h.1, ?_⟩
      rw [byt_put, if_neg hne, has_put, if_neg hne]
      exact h.2
    · exact h
  · exact h
theorem trim_die {s : S} {u : Nat} {bs : List Int} {L : List Fi} {rs Q : List Re} (h : Ar s u) (hc : Cl L rs) (_hk : KeysL L) (hQ : bs = (frs Q).flatten) (hus : s.used + bs.length ≤ 100000) :
    ((rpE s L bs = 0 ∧ Has (rpL s L bs) Q) ∨ (rpE s L bs = 14 ∧ Has (rpL s L bs) rs)) ∧ (bytL (rpL s L bs) klog).length ≤ max (frs rs).flatten.length bs.length := by
  have hne : ¬ knew = klog := by decide
  have e1 : rdy s.d [knew] = 0 := by rw [h.d]; decide
  have e2 : ¬ s.room < s.used - ((bytL L knew).length : Int) + (bs.length : Int) := by rw [h.room]; omega
  have hm : (1 : Int) + (bs.length : Int) = ((1 + bs.length : Nat) : Int) := by omega
  have hE : wriE s L knew bs.length = dwn (useS s ((1 + bs.length : Nat) : Int)) := by
    unfold wriE; rw [e1, if_neg (by decide), if_neg e2, hm]
  rcases Nat.lt_or_ge u (1 + bs.length) with hu | hu
  · obtain ⟨_, g2⟩ := (h.use (1 + bs.length)).1 hu
    have hE14 : wriE s L knew bs.length = 14 := hE.trans g2
    have f1 : rpE s L bs = 14 := by unfold rpE; rw [hE14, if_neg (by decide)]
    have f2 : rpL s L bs = wriL s L knew bs := by unfold rpL; rw [hE14, if_neg (by decide)]
    exact ⟨.inr ⟨f1, by rw [f2]; exact (wri_klog hc).has⟩, by rw [f2, (wri_klog hc).1]; omega⟩
  · obtain ⟨g1, g2, g3⟩ := (h.use (1 + bs.length)).2 hu
    have hE0 : wriE s L knew bs.length = 0 := hE.trans g2
    have f1 : rpE s L bs = renE (wriS s L knew bs.length) (wriL s L knew bs) knew klog := by unfold rpE; rw [hE0, if_pos rfl]
    have f2 : rpL s L bs = renL (wriS s L knew bs.length) (wriL s L knew bs) knew klog := by unfold rpL; rw [hE0, if_pos rfl]
    have hB : wriB s L knew bs.length := ⟨e1, e2⟩
    have hL1 : wriL s L knew bs = putL L knew (dv, bs) := by
      unfold wriL
      rw [if_pos hB, hm, g1, if_pos (by omega)]
      congr 2
      have : (((1 + bs.length : Nat) : Int) - 1).toNat = bs.length := by omega
      rw [this, List.take_length]
    have hS1 : Ar (wriS s L knew bs.length) (u - (1 + bs.length)) := by
      unfold wriS
      rw [if_pos hB, hm, g1, if_pos (by omega)]
      exact ⟨g3.a, g3.n, g3.d, g3.room⟩
    obtain ⟨s1, hs1⟩ : ∃ s1, s1 = wriS s L knew bs.length := ⟨_, rfl⟩
    rw [← hs1] at hS1 f1 f2
    rw [f1, f2, hL1]
    have hfn : fnd s1.d (putL L knew (dv, bs)) knew [klog, knew] = 0 := by
      have h3 : rdy s1.d [klog, knew] = 0 := by rw [hS1.d]; decide
      unfold fnd
      rw [h3, if_neg (by decide), has_put, if_pos rfl]
      rfl
    have hR : renE s1 (putL L knew (dv, bs)) knew klog = dwn (useS s1 1) := by unfold renE; rw [hfn, if_neg (by decide)]
    have hc1 : Cl (putL L knew (dv, bs)) rs := by rw [← hL1]; exact wri_klog hc
    rcases Nat.lt_or_ge (u - (1 + bs.length)) 1 with hv | hv
    · obtain ⟨k1, k2⟩ := (hS1.use 1).1 hv
      have hRL : renL s1 (putL L knew (dv, bs)) knew klog = putL L knew (dv, bs) := by
        unfold renL
        refine if_neg fun e => ?_
        have e3 := e.2
        have k1' : useN s1 1 = ((u - (1 + bs.length) : Nat) : Int) := k1
        omega
      rw [hRL]
      exact ⟨.inr ⟨hR.trans k2, hc1.has⟩, by rw [hc1.1]; omega⟩
    · obtain ⟨k1, k2, _⟩ := (hS1.use 1).2 hv
      have hRL : renL s1 (putL L knew (dv, bs)) knew klog = putL (delL (putL L knew (dv, bs)) knew) klog (dv, bs) := by
        unfold renL
        rw [if_pos ⟨hfn, k1⟩, byt_put, if_pos rfl]
      rw [hRL]
      exact ⟨.inl ⟨hR.trans k2, (Cl.put _ dv hQ).has⟩, by rw [byt_put, if_pos rfl]; omega⟩
end Go.Proofs.Ytklngdmpledgeaa.Jo

namespace Go.Proofs.Ytklngdmpledgeaa.Jo
open Go.RowKit Fr Sr

theorem rp_alike {L L' : List Fi} (h : Sr.Alike L L') (hk : KeysL L) (hk' : KeysL L') (s : S) (bs : List Int) : rpE s L' bs = rpE s L bs ∧ rpS s L' bs = rpS s L bs ∧ Sr.Alike (rpL s L bs) (rpL s L' bs) := by
  obtain ⟨e1, e2, e3⟩ := wri_alike h s knew bs
  obtain ⟨f1, f2, f3⟩ := ren_alike e3 (keys_wri knew bs hk) (keys_wri knew bs hk') (wriS s L knew bs.length) knew klog
  unfold rpE rpS rpL
  rw [e1, e2]
  split
  · exact ⟨f1, f2, f3⟩
  · exact ⟨rfl, rfl, e3⟩
theorem app_alike {L L' : List Fi} (h : Sr.Alike L L') (s : S) (bs : List Int) : Sr.Alike (appL s L klog bs) (appL s L' klog bs) := by
  unfold appL
  rw [(h klog).2]
  split
  · split
    · exact h.put _ _ _ _
    · exact h
  · exact h
def keyR (rs : List Re) (k : Int) : Nat := (rs.takeWhile fun r => decide ((r.1 : Int) < k)).length
theorem tw_map : ∀ (xs : List Xr) (rs : List Re) (k : Int), xs.map (·.1) = rs.map (fun r => (r.1 : Int)) → Tb.pl xs k = keyR rs k
  | [], [], _, _ => rfl
  | [], _ :: _, _, h => by cases h
  | _ :: _, [], _, h => by cases h
  | x :: xs, r :: rs, k, h => by
    have h1 : x.1 = (r.1 : Int) := (List.cons.inj h).1
    have h2 := tw_map xs rs k (List.cons.inj h).2
    have h3 : (xs.takeWhile fun r => decide (r.1 < k)).length = (rs.takeWhile fun r => decide ((r.1 : Int) < k)).length := h2
    show ((x :: xs).takeWhile fun r => decide (r.1 < k)).length = ((r :: rs).takeWhile fun r => decide ((r.1 : Int) < k)).length
    rw [List.takeWhile_cons, List.takeWhile_cons, h1]
    by_cases hc : (r.1 : Int) < k
    · simp only [hc, decide_true, if_true, List.length_cons, h3]
    · simp only [hc, decide_false]; rfl
theorem pl_vals {w : World} {T : Nat → Prop} {xs : List Xr} {rs : List Re} (h : Vals w T xs rs) (k : Int) : Tb.pl xs k = keyR rs k := by
  refine tw_map xs rs k (List.ext_getElem? fun i => ?_)
  rw [List.getElem?_map, List.getElem?_map]
  cases hx : xs[i]? with
  | none =>
    have h1 : rs[i]? = none := List.getElem?_eq_none (by have := List.getElem?_eq_none_iff.1 hx; rw [← h.1]; exact this)
    rw [h1]; rfl
  | some x =>
    have hi : i < rs.length := by rw [← h.1]; exact (List.getElem?_eq_some_iff.1 hx).1
    rw [List.getElem?_eq_getElem hi]
    simp only [Option.map_some, Option.some.injEq]
    exact (h.2 i x _ hx (List.getElem?_eq_getElem hi)).1
/-- A store with room for a thousand bytes that is not armed. -/
def US (u : Int) : S := ⟨false, 0, false, 1000, u⟩
theorem us_app (u : Int) (m : Nat) (h : u + m ≤ 1000) : appE (US u) klog m = 0 ∧ appS (US u) klog m = US (u + m) := by
  have e1 : rdy (US u).d [klog] = 0 := okLog
  have e2 : ¬ (US u).room < (US u).used + (m : Int) := by unfold US; simp; omega
  have e3 : useS (US u) (m : Int) = US u := rfl
  have e4 : useN (US u) (m : Int) = m := by simp [useN, US]
  refine ⟨?_, ?_⟩
  · unfold appE
    rw [e1, if_neg (by decide), if_neg e2, e3]
    rfl
  · unfold appS
    rw [if_pos ⟨e1, e2⟩, e3, e4, if_pos (by omega)]
    rfl
theorem us_appL (u : Int) (L : List Fi) (bs : List Int) (h : u + bs.length ≤ 1000) : appL (US u) L klog bs = putL L klog (dv, bytL L klog ++ bs) := by
  have e1 : rdy (US u).d [klog] = 0 := okLog
  have e2 : ¬ (US u).room < (US u).used + (bs.length : Int) := by unfold US; simp; omega
  have e4 : useN (US u) (bs.length : Int) = bs.length := by simp [useN, US]
  unfold appL
  rw [if_pos ⟨e1, e2⟩, e4, if_pos (by omega)]
  simp
section
variable {w : World} {p j t nx : Nat} {u : Int} {mb : Option Nat} {L : List Fi} {sv : Value} {xs : List Xr} {rs : List Re}
theorem k_open (h : StR w p (US 0) none []) : Calls Try.prog 38 #[.pointer (some ⟨p, 0, none⟩)] w fun e w' => ∃ j t sv xs mb' L', e = .returned (.tuple #[.pointer (some ⟨j, 0, none⟩), .int .i64 0]) ∧ JSt w' p (US 0) mb' L' j t true 0 sv xs [] ∧ Sr.Alike [] L' ∧ Off (fun i => i = p) w w' ∧ (∀ i, Tj p mb' L' j t sv i → i = p ∨ w.heap.size ≤ i) := by
  have e0 : bytL ([] : List Fi) klog = [] := rfl
  have hc : cnt [] = [] := by unfold cnt allF; rfl
  have ho := open_ok h rfl (by rw [e0]; decide) (by rw [e0]; intro x hx; cases hx) (by rw [e0, hc]; intro h1; exact absurd h1 (by decide))
  rw [e0, hc] at ho
  refine ho.mono ?_
  rintro e w' ⟨j, t, sv, xs, mb', L', rfl, hj, hal, hoff, hn, hn2⟩
  refine ⟨j, t, sv, xs, mb', L', rfl, hj, hal, hoff.mono (fun i hi => own_nil hi), fun i hi => ?_⟩
  rcases hi with hi | hi
  · exact (hn i hi).imp (fun e => own_nil e) id
  · exact .inr (hn2 i hi)
theorem k_app (h : JSt w p (US u) mb L j t true nx sv xs rs) (c : Int) (hc : 0 ≤ c ∧ c < 256) {m : Nat} (hm : (recF nx [c]).length = m) (hu : u + m ≤ 1000) (hnx : nx ≤ 4611686018427387903) (hx : xs.length < 900) :
    Calls Try.prog 39 #[.pointer (some ⟨j, 0, none⟩), .slice (some ⟨w.heap.size, 0, none⟩) 1 1] (w.alloc (.cells #[.int .u8 c] 5 (1, 2))) fun e w' => e = .returned (.tuple #[.int .i64 (nx : Int), .int .i64 0]) ∧ JMv w w' p mb L j t sv t (fun mb' L' sv' => ∃ xs', JSt w' p (US (u + m)) mb' L' j t true (nx + 1) sv' xs' (rs ++ [(nx, [c])]) ∧ Sr.Alike (putL L klog (dv, bytL L klog ++ recF nx [c])) L' ∧ xs'.length = xs.length + 1) := by
  have hal : Below w.heap.size w (w.alloc (.cells #[.int .u8 c] 5 (1, 2))) := alloc_below _ _
  have hb : BAt (w.alloc (.cells #[.int .u8 c] 5 (1, 2))) (.slice (some ⟨w.heap.size, 0, none⟩) 1 1) [c] := lit_at w [c] (1, 2)
  have ha := append_ok (h.below hal) hb (fun x hx => by simp at hx; omega) (fun hp a n c' ha ht => by
    cases ha
    have := h.tj_lt ht
    exact absurd this (Nat.lt_irrefl _)) (by decide) hnx hx (by rw [hm]; exact (us_app u m hu).1)
  rw [hm, (us_app u m hu).2, us_appL u L _ (by rw [hm]; exact hu)] at ha
  refine ha.mono ?_
  rintro e w' ⟨rfl, hmv⟩
  exact ⟨rfl, JMv.below hal hmv⟩
def kB : List Int := recF 0 [120] ++ recF 1 [121]
theorem kB_num : (recF 0 [120]).length = 10 ∧ (recF 1 [121]).length = 10 ∧ (recF 2 [122]).length = 10 := by decide
theorem k_rp (L : List Fi) (hk : KeysL L) (ha : Sr.Alike [(klog, dv, kB)] L) : rpE (US 20) L (recF 1 [121]) = 0 ∧ rpS (US 20) L (recF 1 [121]) = US 10 := by
  have h1 := rp_alike ha (List.pairwise_singleton _ _) hk (US 20) (recF 1 [121])
  rw [h1.1, h1.2.1]
  exact ⟨by decide, by kernel_rfl⟩
theorem k_trim (h : JSt w p (US 20) mb L j t true 2 sv xs [(0, [120]), (1, [121])]) (ha : Sr.Alike [(klog, dv, kB)] L) : Calls Try.prog 40 #[.pointer (some ⟨j, 0, none⟩), .int .i64 1] w fun e w' => e = .returned (.int .i64 0) ∧ ∃ t', JMv w w' p mb L j t sv t' (fun mb' L' sv' => ∃ xs', JSt w' p (US 10) mb' L' j t' true 2 sv' xs' [(1, [121])]) := by
  have hpl : Tb.pl xs 1 = 1 := (pl_vals h.jr.vals 1).trans (by decide)
  have e1 : ([(0, [120]), (1, [121])] : List Re).drop (Tb.pl xs 1) = [(1, [121])] := by rw [hpl]; rfl
  have ht := trim_any h 1 (fun r hr => by
    simp at hr
    rcases hr with rfl | rfl <;> exact ⟨by decide, fun x hx => by simp at hx; omega⟩) (by rw [e1]; decide)
  have e2 : (frs [(1, [121])]).flatten = recF 1 [121] := by simp [frs]
  obtain ⟨e3, e4⟩ := k_rp L h.st.keys ha
  rw [e1, e2, e3, e4] at ht
  refine ht.mono ?_
  rintro e w' ⟨rfl, t', mb', L', sv', ⟨xs', hj, _⟩, ho, hn⟩
  exact ⟨rfl, t', mb', L', sv', ⟨xs', hj⟩, ho, hn⟩
end
end Go.Proofs.Ytklngdmpledgeaa.Jo

namespace Go.Proofs.Ytklngdmpledgeaa.Jo
open Go.RowKit Fr Sr

/-- A row of two, read. -/
theorem rows_two {w : World} {base : Nat} {v : Value} {b1 b2 : List Int} (h : RowsB w base (fun _ => False) v [b1, b2]) : ∃ g cap u1 u2, v = .slice (some ⟨g, 0, none⟩) 2 cap ∧ w.cell? ⟨g, 0, none⟩ = some u1 ∧ w.cell? ⟨g, 1, none⟩ = some u2 ∧ BAt w u1 b1 ∧ BAt w u2 b2 := by
  obtain ⟨us, h1, h2⟩ := h
  have hl : us.length = 2 := by have := h1.1; simpa using this
  obtain ⟨u1, u2, rfl⟩ : ∃ a b, us = [a, b] := by
    match us, hl with
    | [a, b], _ => exact ⟨a, b, rfl⟩
  obtain ⟨_, ⟨_, e⟩ | ⟨g, cap, cur, e, _⟩⟩ := id h1
  · cases e
  · subst e
    refine ⟨g, cap, u1, u2, rfl, ?_, ?_, (h2 0 u1 b1 rfl rfl).1, (h2 1 u2 b2 rfl rfl).1⟩
    · exact h1.cells (g := g) rfl 0 u1 rfl
    · exact h1.cells (g := g) rfl 1 u2 rfl
theorem k_recs {w : World} {p j t nx : Nat} {u : Int} {mb : Option Nat} {L : List Fi} {sv : Value} {xs : List Xr} (h : JSt w p (US u) mb L j t true nx sv xs [(1, [121]), (2, [122])]) : Calls Try.prog 42 #[.pointer (some ⟨j, 0, none⟩), .int .i64 0] w fun e w' => ∃ g cap u1 u2, e = .returned (.slice (some ⟨g, 0, none⟩) 2 cap) ∧ (w'.cell? ⟨g, 0, none⟩ = some u1 ∧ w'.cell? ⟨g, 1, none⟩ = some u2 ∧ BAt w' u1 [121] ∧ BAt w' u2 [122]) ∧ Below w.heap.size w w' := by
  have hpl : Tb.pl xs 0 = 0 := (pl_vals h.jr.vals 0).trans (by decide)
  have hr := records_any h 0 (fun r hr => by
    simp at hr
    rcases hr with rfl | rfl <;> decide)
  rw [hpl] at hr
  refine hr.mono ?_
  rintro e w' ⟨v, rfl, hv, hb⟩
  obtain ⟨g, cap, u1, u2, rfl, h1⟩ := rows_two hv
  exact ⟨g, cap, u1, u2, rfl, h1, hb⟩
theorem JMv.bel {w w' : World} {p j t t' P : Nat} {mb : Option Nat} {L : List Fi} {sv : Value} {Q : Option Nat → List Fi → Value → Prop} (h : JMv w w' p mb L j t sv t' Q) (hP : ∀ i, Tj p mb L j t sv i → P ≤ i) (hw : P ≤ w.heap.size) : Below P w w' ∧ ∃ mb' L' sv', Q mb' L' sv' ∧ ∀ i, Tj p mb' L' j t' sv' i → P ≤ i := by
  obtain ⟨mb', L', sv', hq, ho, hn⟩ := h
  refine ⟨ho.below hP hw, mb', L', sv', hq, fun i hi => ?_⟩
  rcases hn i hi with h1 | h1
  · exact hP i h1
  · omega
set_option maxRecDepth 100000 in
set_option maxHeartbeats 8000000 in
theorem known_any (w : World) : Calls Try.prog 43 #[] w fun e w' => e = .returned (.bool true) ∧ Below w.heap.size w w' := by
  have HN := Lib.hid (Sr.new_any w 1000 (by decide) (by decide))
  have kc := fun (w : World) (C : Array Value) (n c : Nat) => Lib.run_convert_bytes_const (P := Try.prog) w 32 5 C n c Try.underlying32 Try.underlying5
  obtain ⟨p, hp⟩ : ∃ p, p = w.heap.size := ⟨_, rfl⟩
  rw [← hp] at HN
  have HP := Lib.hid hp
  clear hp
  go_enter Try.func43, Try.ntmps43
  go_wp2_with (first
    | (go_at_call 42; (with_reducible refine (k_recs HJ6.out).mono ?_); rintro e w7 ⟨g7, c7, u1, u2, rfl, ⟨r1, r2, ha1, ha2⟩, hb7⟩
       have q1 : (convert 32 9 u1).run Try.prog w7 = .ok (.string { data := #[121] }) w7 := conv_any ha1 (fun x hx => by simp at hx; omega)
       have q2 : (convert 32 9 u2).run Try.prog w7 = .ok (.string { data := #[122] }) w7 := conv_any ha2 (fun x hx => by simp at hx; omega)
       have HB7 := Lib.hid hb7
       clear ha1 ha2 hb7)
    | (go_at_call 39; (with_reducible refine (k_app (w := w5) HJ5.out 122 (by decide) kB_num.2.2 (by decide) (by decide) HX5.out).mono ?_); rintro e w6 ⟨rfl, hm6⟩
       obtain ⟨hb6, mb6, L6, sv6, ⟨xs6, hj6, _⟩, hn6⟩ := hm6.bel HN5.out HZ5.out
       have HJ6 := Lib.hid hj6
       have HB6 : Hid (Below p w w6) := HB5.out.trans hb6
       clear hm6 hb6 hj6 hn6)
    | (go_at_call 40; (with_reducible refine (k_trim HJ4.out HA4.out).mono ?_); rintro e w5 ⟨rfl, t5, hm5⟩
       obtain ⟨hb5, mb5, L5, sv5, ⟨xs5, hj5⟩, hn5⟩ := hm5.bel HN4.out HZ4.out
       have HJ5 := Lib.hid hj5
       have HN5 := Lib.hid hn5
       have HX5 : Hid (xs5.length < 900) := by show xs5.length < 900; rw [hj5.jr.vals.1]; decide
       have HB5 : Hid (Below p w w5) := HB4.out.trans hb5
       have HZ5 : Hid (p ≤ w5.heap.size) := Nat.le_trans HZ4.out hb5.size
       clear hm5 hb5 hj5 hn5)
    | (go_at_call 39; (with_reducible refine (k_app (w := w3) HJ3.out 121 (by decide) kB_num.2.1 (by decide) (by decide) HX3.out).mono ?_); rintro e w4 ⟨rfl, hm4⟩
       obtain ⟨hb4, mb4, L4, sv4, ⟨xs4, hj4, hal4, _⟩, hn4⟩ := hm4.bel HN3.out HZ3.out
       have HJ4 := Lib.hid hj4
       have HN4 := Lib.hid hn4
       have HA4 : Hid (Sr.Alike [(klog, dv, kB)] L4) := by
         have h1 := (HA3.out.put klog dv dv (bytL L3 klog ++ recF 1 [121])).trans hal4
         rw [(HA3.out klog).2] at h1
         exact h1
       have HB4 : Hid (Below p w w4) := HB3.out.trans hb4
       have HZ4 : Hid (p ≤ w4.heap.size) := Nat.le_trans HZ3.out hb4.size
       clear hm4 hb4 hj4 hn4 hal4)
    | (go_at_call 39; (with_reducible refine (k_app (w := w2) HJ2.out 120 (by decide) kB_num.1 (by decide) (by decide) HX2.out).mono ?_); rintro e w3 ⟨rfl, hm3⟩
       obtain ⟨hb3, mb3, L3, sv3, ⟨xs3, hj3, hal3, _⟩, hn3⟩ := hm3.bel HN2.out HZ2.out
       have HJ3 := Lib.hid hj3
       have HN3 := Lib.hid hn3
       have HX3 : Hid (xs3.length < 900) := by show xs3.length < 900; rw [hj3.jr.vals.1]; decide
       have HA3 : Hid (Sr.Alike [(klog, dv, recF 0 [120])] L3) := by
         have h1 := (HA2.out.put klog dv dv (bytL L2 klog ++ recF 0 [120])).trans hal3
         rw [(HA2.out klog).2] at h1
         exact h1
       have HB3 : Hid (Below p w w3) := HB2.out.trans hb3
       have HZ3 : Hid (p ≤ w3.heap.size) := Nat.le_trans HZ2.out hb3.size
       clear hm3 hb3 hj3 hn3 hal3)
    | (go_at_call 38; go_loud (with_reducible refine (k_open H1.out.1).mono ?_); rintro e w2 ⟨j, t, sv, xs, mb2, L2, rfl, hj2, hal2, ho2, hn2⟩
       have HJ2 := Lib.hid hj2
       have HX2 : Hid (xs.length < 900) := by show xs.length < 900; rw [hj2.jr.vals.1]; decide
       have HA2 := Lib.hid hal2
       have HN2 : Hid (∀ i, Tj p mb2 L2 j t sv i → p ≤ i) := fun i hi => by
         rcases hn2 i hi with h1 | h1
         · omega
         · have := H1.out.2.2; omega
       have HB2 : Hid (Below p w w2) := by
         have h3 : Below p w1 w2 := ho2.below (fun i (hi : i = p) => by omega) (Nat.le_of_lt H1.out.2.2)
         exact H1.out.2.1.trans h3
       have HZ2 : Hid (p ≤ w2.heap.size) := Nat.le_trans (Nat.le_of_lt H1.out.2.2) ho2.1.size
       clear hj2 hal2 ho2 hn2)
    | (go_at_call 14; (with_reducible refine HN.out.mono ?_); rintro e w1 ⟨rfl, h1⟩; have H1 : Hid (StR w1 p (US 0) none [] ∧ Below p w w1 ∧ p < w1.heap.size) := h1; clear h1))
  go_ret
  refine ⟨rfl, ?_⟩
  rw [← HP.out]
  exact HB6.out.trans (HB7.out.mono (by rw [HP.out]; exact HB6.out.size))
end Go.Proofs.Ytklngdmpledgeaa.Jo
