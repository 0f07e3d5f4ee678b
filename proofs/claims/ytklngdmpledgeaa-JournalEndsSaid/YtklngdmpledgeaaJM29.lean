/-
  JournalEnds: while the law appends. Conditions: at most eight records of at most forty bytes.
-/
import Derived.Test.YtklngdmpledgeaaJM24
import Derived.Test.YtklngdmpledgeaaJM27
import Derived.Test.YtklngdmpledgeaaJM28
namespace Go.Proofs.Ytklngdmpledgeaa.Jo
open Go.RowKit Fr Sr

/-- A store with room for a hundred thousand bytes that is not armed. -/
def VS (u : Int) : S := ⟨false, 0, false, 100000, u⟩
theorem vs_app (u : Int) (m : Nat) (h : u + m ≤ 100000) : appE (VS u) klog m = 0 ∧ appS (VS u) klog m = VS (u + m) := by
  have e1 : rdy (VS u).d [klog] = 0 := okLog
  have e2 : ¬ (VS u).room < (VS u).used + (m : Int) := by unfold VS; simp; omega
  have e3 : useS (VS u) (m : Int) = VS u := rfl
  have e4 : useN (VS u) (m : Int) = m := by simp [useN, VS]
  refine ⟨?_, ?_⟩
  · unfold appE
    rw [e1, if_neg (by decide), if_neg e2, e3]
    rfl
  · unfold appS
    rw [if_pos ⟨e1, e2⟩, e3, e4, if_pos (by omega)]
    rfl
theorem vs_appL (u : Int) (L : List Fi) (bs : List Int) (h : u + bs.length ≤ 100000) : appL (VS u) L klog bs = putL L klog (dv, bytL L klog ++ bs) := by
  have e1 : rdy (VS u).d [klog] = 0 := okLog
  have e2 : ¬ (VS u).room < (VS u).used + (bs.length : Int) := by unfold VS; simp; omega
  have e4 : useN (VS u) (bs.length : Int) = bs.length := by simp [useN, VS]
  unfold appL
  rw [if_pos ⟨e1, e2⟩, e4, if_pos (by omega)]
  simp
theorem e_open {w : World} {p : Nat} (h : StR w p (VS 0) none []) : Calls Try.prog 38 #[.pointer (some ⟨p, 0, none⟩)] w fun e w' => ∃ j t sv xs mb' L', e = .returned (.tuple #[.pointer (some ⟨j, 0, none⟩), .int .i64 0]) ∧ JSt w' p (VS 0) mb' L' j t true 0 sv xs [] ∧ Sr.Alike [] L' ∧ Off (fun i => i = p) w w' ∧ (∀ i, Tj p mb' L' j t sv i → i = p ∨ w.heap.size ≤ i) := by
  have e0 : bytL ([] : List Fi) klog = [] := rfl
  have hc : cnt [] = [] := by unfold cnt allF; rfl
  have ho := open_ok h rfl (by rw [e0]; decide) (by rw [e0]; intro x hx; cases hx) (by rw [e0, hc]; intro h1; exact absurd h1 (by decide))
  rw [e0, hc] at ho
  refine ho.mono ?_
  rintro e w' ⟨j, t, sv, xs, mb', L', rfl, hj, hal, hoff, hn, hn2⟩
  refine ⟨j, t, sv, xs, mb', L', rfl, hj, hal, hoff.mono (fun i hi => own_nil hi), fun i hi => ?_⟩
  rcases hi with hi | hi
  · exact (hn i hi).imp (fun e => own_nil e) id
  · exact .inr (hn2 i hi)
/-- The journal has rs, the law's list rq. -/
def EI (w : World) (p j t nx : Nat) (v : Value) (rs rq : List Re) (W : World) : Prop :=
  ∃ mb L sv xs u, JSt W p (VS u) mb L j t true nx sv xs rs ∧ Cl L rs ∧ (0 ≤ u ∧ u ≤ 60 * (nx : Int)) ∧ (Sq 0 rs ∧ rs.length = nx ∧ ∀ r ∈ rs, r.2.length ≤ 40 ∧ bok r.2) ∧ RecO w W v rq ∧ Below w.heap.size w W ∧ (∀ k, Tj p mb L j t sv k → w.heap.size ≤ k ∧ v.ownBlock ≠ some k) ∧ ∀ (i : Nat) (x : Xr) (r : Re), xs[i]? = some x → rs[i]? = some r → BK (fun k => v.ownBlock ≠ some k) (bval x.2) r.2
theorem EI.bel {w W : World} {p j t nx : Nat} {v : Value} {rs rq : List Re} (h : EI w p j t nx v rs rq W) : Below w.heap.size w W := by
  obtain ⟨mb, L, sv, xs, u, _, _, _, _, _, hw, _⟩ := h
  exact hw
theorem sq_snoc : ∀ (rs : List Re) (a : Nat) (l : List Int), Sq a rs → Sq a (rs ++ [(a + rs.length, l)])
  | [], a, l, _ => ⟨rfl, trivial⟩
  | r :: rs, a, l, h => by
    refine ⟨h.1, ?_⟩
    have h1 := sq_snoc rs (a + 1) l h.2
    have e : a + 1 + rs.length = a + (r :: rs).length := by rw [List.length_cons]; omega
    rw [e] at h1
    exact h1
theorem RecO.kept {S : Nat → Prop} {w W W' : World} {v : Value} {rs : List Re} (h : RecO w W v rs) (ho : Off S W W') (hv : ∀ k, v.ownBlock = some k → ¬ S k) : RecO w W' v rs := by
  obtain ⟨us, h1, h2⟩ := h
  exact ⟨us, Oc.ownsRow_kept h1 (fun g hg => ho.2 g (h1.lt g hg).2 (hv g hg)), h2⟩
theorem RecO.lt {w W : World} {v : Value} {rs : List Re} (h : RecO w W v rs) {k : Nat} (hk : v.ownBlock = some k) : w.heap.size ≤ k ∧ k < W.heap.size := by
  obtain ⟨us, h1, _⟩ := h
  exact h1.lt k hk
theorem EI.below {w W W' : World} {p j t nx : Nat} {v : Value} {rs rq : List Re} (h : EI w p j t nx v rs rq W) (hb : Below W.heap.size W W') : EI w p j t nx v rs rq W' := by
  obtain ⟨mb, L, sv, xs, u, hj, hc, hu, hs, hro, hw, ht, hx⟩ := h
  exact ⟨mb, L, sv, xs, u, hj.below hb, hc, hu, hs, hro.kept (Off.of_below (fun _ => False) hb) (fun _ _ e => e), hw.trans (hb.mono hw.size), ht, hx⟩
theorem ends_app {w W : World} {p j t i : Nat} {v : Value} {rs : List Re} (h : EI w p j t i v rs rs W) (hi : i < 8) {A : Option Addr} {n c : Nat} {l : List Int} (hb : BAt w (.slice A n c) l) (hl : n ≤ 40) (hbk : bok l) :
    Calls Try.prog 39 #[.pointer (some ⟨j, 0, none⟩), .slice A n c] W fun e W' => e = .returned (.tuple #[.int .i64 (i : Int), .int .i64 0]) ∧ EI w p j t (i + 1) v (rs ++ [(i, l)]) rs W' := by
  obtain ⟨mb, L, sv, xs, u, hj, hc, ⟨hu0, hu⟩, ⟨hs, hrl, hr⟩, hro, hw, ht, hx⟩ := h
  have hln := hb.len.1
  have hm : (recF i l).length ≤ 60 := by
    rw [recF_len]
    have := (Oc.grp_len i).1
    omega
  have hm2 : u + (recF i l).length ≤ 100000 := by omega
  have hxl : xs.length = i := hj.jr.vals.1.trans hrl
  have ha := append_ok2 hj (hb.kept hw) hbk (fun hp a n c ha htj => by
    have h1 : a.block < w.heap.size := bk_lt hb hp a n c ha
    have := (ht _ htj).1
    omega) (by omega) (by omega) (by omega) (by exact (vs_app u _ hm2).1)
  rw [(vs_app u _ hm2).2, vs_appL u L _ hm2] at ha
  refine ha.mono ?_
  rintro e W' ⟨rfl, mb', L', sv', ⟨xs', hj', hal', y, rfl, hy⟩, ho, hn⟩
  have hv : ∀ k, v.ownBlock = some k → ¬ Tj p mb L j t sv k := fun k hk htj => (ht k htj).2 hk
  refine ⟨rfl, mb', L', sv', xs ++ [y], u + (recF i l).length, hj', ?_, ⟨by omega, by omega⟩, ⟨?_, by rw [List.length_append, hrl]; rfl, fun r hr' => ?_⟩, hro.kept ho hv, ?_, fun k hk => ?_, fun a x r hxa hra => ?_⟩
  · refine (Cl.put L dv ?_).alike hal'
    rw [frs_snoc, hc.1]
  · have h1 := sq_snoc rs 0 l hs
    rwa [Nat.zero_add, hrl] at h1
  · rcases List.mem_append.1 hr' with h1 | h1
    · exact hr r h1
    · simp at h1
      subst h1
      exact ⟨by show l.length ≤ 40; omega, hbk⟩
  · exact hw.trans (ho.below (fun k hk => (ht k hk).1) hw.size)
  · rcases hn k hk with h1 | h1
    · exact ht k h1
    · refine ⟨Nat.le_trans hw.size h1, fun e => ?_⟩
      have := (hro.lt e).2
      omega
  · rw [List.getElem?_append] at hxa hra
    split at hxa
    · rename_i hlt
      rw [if_pos (by omega)] at hra
      exact hx a x r hxa hra
    · rename_i hlt
      rw [if_neg (by omega)] at hra
      have e3 : a - xs.length = 0 := by
        have := (List.getElem?_eq_some_iff.1 hxa).1
        simp at this; omega
      rw [e3] at hxa
      rw [show a - rs.length = 0 by omega] at hra
      simp at hxa hra
      subst hxa hra
      intro hp a2 n2 c2 he e
      have h1 : W.heap.size ≤ a2.block := hy hp a2 n2 c2 he
      have := (hro.lt e).2
      omega
theorem ends_have {w W : World} {p j t i : Nat} {v u : Value} {rs rq : List Re} {r : Re} (h : EI w p j t i v rs rq W) (hn : rq.length ≤ 1000) (hu : u.oneCell' = true) (hb : BAt w u r.2) :
    ∃ A' n' c' w', (Builtin.append_ #[64, 64] 64 #[v, .slice (some ⟨W.heap.size, 0, none⟩) 1 1]).run Try.prog (W.alloc (.cells #[.int .i64 (r.1 : Int), u] 68)) = .ok (.slice A' n' c') w' ∧ EI w p j t i (.slice A' n' c') rs (rq ++ [r]) w' := by
  obtain ⟨mb, L, sv, xs, us, hj, hc, hu2, hs, hro, hw, ht, hx⟩ := h
  obtain ⟨A', n', c', w', hr, hro', hb', ho, hn'⟩ := app_reco hro hw hn hu hb
  have hS : ∀ k, Tj p mb L j t sv k → ¬ v.ownBlock = some k := fun k hk e => (ht k hk).2 e
  refine ⟨A', n', c', w', hr, mb, L, sv, xs, us, ⟨hj.st.kept ho (fun k hk => hS k (.inl hk)), ?_, hj.sep⟩, hc, hu2, hs, hro', hb', fun k hk => ⟨(ht k hk).1, fun e => ?_⟩, fun a x q hxa hqa hp a2 n2 c2 he e => ?_⟩
  · refine ⟨(ho.2 j (hj.jr.oj_lt (.inl rfl)) (hS j (.inr (.inl rfl)))).trans hj.jr.blk, hj.jr.tab.kept (kept_of_off ho) (hS t (.inr (.inr (.inl rfl)))) (fun g hg => hS g (.inr (.inr (.inr hg)))), ⟨hj.jr.vals.1, fun a x q hxa hqa => ?_⟩, hj.jr.asc, hj.jr.lt, hj.jr.few, hj.jr.nxl⟩
    obtain ⟨h1, h2, h3⟩ := hj.jr.vals.2 a x q hxa hqa
    exact ⟨h1, bat_step h2 ho (hx a x q hxa hqa), h3⟩
  · rcases hn' k e with h1 | h1
    · exact hS k hk h1
    · have := hj.tj_lt hk; omega
  · obtain ⟨_, h2, _⟩ := hj.jr.vals.2 a x q hxa hqa
    rcases hn' _ e with h1 | h1
    · exact hx a x q hxa hqa hp a2 n2 c2 he h1
    · have h4 : a2.block < W.heap.size := bk_lt h2 hp a2 n2 c2 he
      omega
end Go.Proofs.Ytklngdmpledgeaa.Jo

namespace Go.Proofs.Ytklngdmpledgeaa.Jo
open Go.RowKit Fr Sr

/-- Ahead of the change: the store is armed. -/
def ED (w : World) (p j t nx u : Nat) (v : Value) (rs : List Re) (W : World) : Prop :=
  ∃ mb L sv xs s, JSt W p s mb L j t true nx sv xs rs ∧ Ar s u ∧ (0 ≤ s.used ∧ s.used ≤ 60 * (nx : Int)) ∧ Cl L rs ∧ (Sq 0 rs ∧ rs.length = nx ∧ ∀ r ∈ rs, r.2.length ≤ 40 ∧ bok r.2) ∧ RecO w W v rs ∧ Below w.heap.size w W ∧ ∀ k, Tj p mb L j t sv k → w.heap.size ≤ k ∧ v.ownBlock ≠ some k
/-- Behind the change: the file has R. -/
def EF (w : World) (p : Nat) (v : Value) (rs R : List Re) (W : World) : Prop :=
  ∃ s mb L, StR W p s mb L ∧ Has L R ∧ (bytL L klog).length ≤ 800 ∧ RecO w W v rs ∧ Below w.heap.size w W ∧ ∀ k, own p mb L k → w.heap.size ≤ k ∧ v.ownBlock ≠ some k
theorem frs_le (rs : List Re) (h : ∀ r ∈ rs, r.2.length ≤ 40 ∧ r.1 < 9223372036854775808) : (frs rs).flatten.length ≤ 58 * rs.length := by
  induction rs with
  | nil => simp [frs]
  | cons r l ih =>
    have h1 := h r (by simp)
    have h2 := ih fun q hq => h q (by simp [hq])
    have h3 : (recF r.1 r.2).length ≤ 58 := by
      rw [recF_len]
      have := (Oc.grp_len r.1).1
      have := h1.1
      omega
    have h4 : (frs (r :: l)).flatten.length = (recF r.1 r.2).length + (frs l).flatten.length := by simp [frs]
    rw [h4, List.length_cons]
    omega
theorem sq_lt : ∀ (rs : List Re) (a : Nat), Sq a rs → ∀ r ∈ rs, r.1 < a + rs.length
  | [], _, _, r, hr => by cases hr
  | q :: rs, a, h, r, hr => by
    rw [List.length_cons]
    rcases List.mem_cons.1 hr with e | hr
    · rw [e, h.1]; omega
    · have := sq_lt rs (a + 1) h.2 r hr; omega
theorem ends_arm {w W : World} {p j t i u : Nat} {v : Value} {rs : List Re} (h : EI w p j t i v rs rs W) (hu : u ≤ 400) :
    Calls Try.prog 25 #[.pointer (some ⟨p, 0, none⟩), .int .i64 (u : Int)] W fun e W' => e = .returned (.tuple #[]) ∧ ED w p j t i u v rs W' := by
  obtain ⟨mb, L, sv, xs, us, hj, hc, hu2, hs, hro, hw, ht, hx⟩ := h
  refine (Arm_any W p _ mb L (u : Int) hj.st (by omega)).mono ?_
  rintro e W' ⟨rfl, hm⟩
  refine ⟨rfl, mb, L, sv, xs, _, hj.store hm, ⟨by simp [armS], rfl, rfl, rfl⟩, ⟨hu2.1, hu2.2⟩, hc, hs, hro.kept hm.off (fun k hk ho => (ht k (.inl ho)).2 hk), hw.trans (hm.off.below (fun k hk => (ht k (.inl hk)).1) hw.size), fun k hk => ht k hk⟩
theorem EF.mk {w W W' : World} {p j t t' nx : Nat} {v : Value} {rs R : List Re} {mb : Option Nat} {L Lc : List Fi} {sv : Value} {Q : Option Nat → List Fi → Value → Prop} (hro : RecO w W v rs) (hw : Below w.heap.size w W) (ht : ∀ k, Tj p mb L j t sv k → w.heap.size ≤ k ∧ v.ownBlock ≠ some k) (hm : JMv W W' p mb L j t sv t' Q) (hQ : ∀ mb' L' sv', Q mb' L' sv' → (∃ s snd xs rs', JSt W' p s mb' L' j t' snd nx sv' xs rs') ∧ Sr.Alike Lc L') (hH : Has Lc R) (hl : (bytL Lc klog).length ≤ 800) : EF w p v rs R W' := by
  obtain ⟨mb', L', sv', hq, ho, hn⟩ := hm
  obtain ⟨⟨s, snd, xs, rs', hj⟩, hal⟩ := hQ _ _ _ hq
  refine ⟨s, mb', L', hj.st, hH.alike hal, by rw [(hal klog).2]; exact hl, hro.kept ho (fun k hk e => (ht k e).2 hk), hw.trans (ho.below (fun k hk => (ht k hk).1) hw.size), fun k hk => ?_⟩
  rcases hn k (.inl hk) with h1 | h1
  · exact ht k h1
  · refine ⟨Nat.le_trans hw.size h1, fun e => ?_⟩
    have := (hro.lt e).2
    omega
theorem ends_trim {w W : World} {p j t i u : Nat} {v : Value} {rs : List Re} (h : ED w p j t i u v rs W) (hi : i ≤ 8) (k : Int) :
    Calls Try.prog 40 #[.pointer (some ⟨j, 0, none⟩), .int .i64 k] W fun e W' => ∃ E R, e = .returned (.int .i64 E) ∧ ((E = 0 ∧ R = rs.drop (keyR rs k)) ∨ (E = 14 ∧ R = rs)) ∧ EF w p v rs R W' := by
  obtain ⟨mb, L, sv, xs, s, hj, har, hu, hc, ⟨hs, hrl, hr⟩, hro, hw, ht⟩ := h
  have hpl := pl_vals hj.jr.vals k
  have hrb : ∀ r ∈ rs, r.2.length ≤ 40 ∧ r.1 < 9223372036854775808 := fun r hr' => ⟨(hr r hr').1, by have := sq_lt rs 0 hs r hr'; omega⟩
  have h1 := frs_le rs hrb
  have h2 := frs_le (rs.drop (keyR rs k)) (fun r hr' => hrb r (List.mem_of_mem_drop hr'))
  have h3 : (rs.drop (keyR rs k)).length ≤ 8 := by rw [List.length_drop]; omega
  have htr := trim_any hj k (fun r hr' => ⟨by have := (hr r hr').1; omega, (hr r hr').2⟩) (by rw [hpl]; omega)
  rw [hpl] at htr
  obtain ⟨hd, hlen⟩ := trim_die (Q := rs.drop (keyR rs k)) har hc hj.st.keys rfl (by omega)
  refine htr.mono ?_
  rintro e W' ⟨rfl, t', hm⟩
  rcases hd with ⟨e1, e2⟩ | ⟨e1, e2⟩
  · refine ⟨_, _, rfl, .inl ⟨e1, rfl⟩, EF.mk (nx := i) hro hw ht hm ?_ e2 (by omega)⟩
    rintro mb' L' sv' ⟨xs', hj', hal⟩
    exact ⟨⟨_, _, _, _, hj'⟩, hal⟩
  · refine ⟨_, _, rfl, .inr ⟨e1, rfl⟩, EF.mk (nx := i) hro hw ht hm ?_ e2 (by omega)⟩
    rintro mb' L' sv' ⟨xs', hj', hal⟩
    exact ⟨⟨_, _, _, _, hj'⟩, hal⟩
theorem ends_last {w W : World} {p j t i u : Nat} {v : Value} {rs : List Re} (h : ED w p j t i u v rs W) (hi : i ≤ 8) {A : Option Addr} {n c : Nat} {l : List Int} (hb : BAt w (.slice A n c) l) (hl : n ≤ 40) (hbk : bok l) :
    Calls Try.prog 39 #[.pointer (some ⟨j, 0, none⟩), .slice A n c] W fun e W' => ∃ a E R, e = .returned (.tuple #[.int .i64 a, .int .i64 E]) ∧ ((E = 0 ∧ R = rs ++ [(i, l)]) ∨ (E = 14 ∧ R = rs)) ∧ EF w p v rs R W' := by
  obtain ⟨mb, L, sv, xs, s, hj, har, hu, hc, ⟨hs, hrl, hr⟩, hro, hw, ht⟩ := h
  have hln := hb.len.1
  have hrb : ∀ r ∈ rs, r.2.length ≤ 40 ∧ r.1 < 9223372036854775808 := fun r hr' => ⟨(hr r hr').1, by have := sq_lt rs 0 hs r hr'; omega⟩
  have h1 := frs_le rs hrb
  have hm : (recF i l).length ≤ 58 := by
    rw [recF_len]
    have := (Oc.grp_len i).1
    omega
  have hxl : xs.length = i := hj.jr.vals.1.trans hrl
  obtain ⟨hd, hlen⟩ := app_die (nx := i) (l := l) har hc (by omega) ⟨by omega, by omega⟩ hbk
  rcases hd with ⟨e1, e2⟩ | ⟨e1, e2⟩
  · refine (append_ok hj (hb.kept hw) hbk (fun hp a n c ha htj => by
      have h5 : a.block < w.heap.size := bk_lt hb hp a n c ha
      have := (ht _ htj).1
      omega) (by omega) (by omega) (by omega) e1).mono ?_
    rintro e W' ⟨rfl, hmv⟩
    refine ⟨_, _, _, rfl, .inl ⟨rfl, rfl⟩, EF.mk (nx := i + 1) hro hw ht hmv ?_ e2 (by omega)⟩
    rintro mb' L' sv' ⟨xs', hj', hal, _⟩
    exact ⟨⟨_, _, _, _, hj'⟩, hal⟩
  · refine (append_bad hj (hb.kept hw) hbk (by omega) (by omega) (by rw [e1]; decide)).mono ?_
    rintro e W' ⟨rfl, hmv⟩
    refine ⟨_, _, _, rfl, .inr ⟨e1, rfl⟩, EF.mk (nx := i) hro hw ht hmv ?_ e2 (by omega)⟩
    rintro mb' L' sv' ⟨hj', hal⟩
    exact ⟨⟨_, _, _, _, hj'⟩, hal⟩
end Go.Proofs.Ytklngdmpledgeaa.Jo

namespace Go.Proofs.Ytklngdmpledgeaa.Jo
open Go.RowKit Fr Sr

theorem RecO.toB {w W : World} {v : Value} {rs : List Re} (h : RecO w W v rs) : ∃ A cap, v = .slice A rs.length cap ∧ (0 < rs.length → ∃ g o, A = some ⟨g, o, none⟩ ∧ g < W.heap.size ∧ ∀ (i : Nat) (r : Re), rs[i]? = some r → ∃ u, W.cell? ⟨g, o + i * 2, none⟩ = some (.int .i64 (r.1 : Int)) ∧ W.cell? ⟨g, o + i * 2 + 1, none⟩ = some u ∧ BAt w u r.2) := by
  obtain ⟨us, h1, h2⟩ := h
  rcases h1.2 with ⟨e, h0⟩ | ⟨g, cap, cur, e, hg, hh, _⟩
  · exact ⟨none, 0, by rw [e, h0], fun hp => by omega⟩
  · refine ⟨_, cap, e, fun hp => ⟨g, 0, rfl, (Array.getElem?_eq_some_iff.1 hh).1, fun i r hi => ?_⟩⟩
    obtain ⟨u, a1, a2, a3⟩ := h2 i r hi
    refine ⟨u, ?_, ?_, a3⟩
    · have h3 := h1.cells (g := g) (by rw [e]; rfl) _ _ a1
      rwa [add_off] at h3
    · have h3 := h1.cells (g := g) (by rw [e]; rfl) _ _ a2
      rwa [add_off] at h3
set_option maxRecDepth 100000 in
set_option maxHeartbeats 4000000 in
theorem rfrom_at (w0 w : World) (u : Value) (rs : List Re) (k : Int) (hv : RecO w0 w u rs) (hw : Below w0.heap.size w0 w) (hm : rs.length ≤ 1000) :
    Calls Try.prog 41 #[u, .int .i64 k] w fun e w' => ∃ v, e = .returned v ∧ RecO w0 w' v (rs.filter fun r => decide (k ≤ (r.1 : Int))) ∧ Below w.heap.size w w' ∧ ∀ i, v.ownBlock = some i → w.heap.size ≤ i := by
  have hv0 := hv.toB
  obtain ⟨A, cap, rfl, _⟩ := hv.toB
  clear hv
  have HW := Lib.hid hw
  clear hw
  obtain ⟨n, hn2⟩ : ∃ n, n = rs.length := ⟨_, rfl⟩
  rw [← hn2] at hm hv0 ⊢
  have HV := Lib.hid hv0
  have HL := Lib.hid hn2
  have e0 : (0 : Int) ≤ (n : Int) := by omega
  clear hv0 hn2
  go_enter Try.func41, Try.ntmps41
  go_wp2
  go_loopg [5, 6] n (fun (gh : Nat) s5 s6 wx => ∃ i : Nat, gh = n - i ∧ i ≤ n ∧ s6 = .int .i64 (i : Int) ∧ Hid (Below w.heap.size w wx) ∧ Hid (RecO w0 wx s5 ((rs.take i).filter fun r => decide (k ≤ (r.1 : Int))) ∧ ∀ a, s5.ownBlock = some a → w.heap.size ≤ a))
  case atStart => exact ⟨0, rfl, Nat.zero_le _, rfl, Below.refl _ _, RecO.nil _ _, fun a ha => by simp [Value.ownBlock] at ha⟩
  case round =>
    obtain ⟨i, rfl, hi, rfl, HB, HO⟩ := hrel
    by_cases hlt : i < n
    · have t1 : (i : Int) < (n : Int) := by omega
      have t2 : (0 : Int) ≤ (i : Int) := by omega
      have hi2 : i < rs.length := by rw [← HL.out]; exact hlt
      obtain ⟨A1, q1, eA', hc3⟩ := HV.out
      simp only [Value.slice.injEq] at eA'
      obtain ⟨rfl, eN, eC⟩ := eA'
      clear eN eC
      obtain ⟨g', o', rfl, lg', hc3⟩ := hc3 (by omega)
      obtain ⟨u2, c2, c3, b2⟩ := hc3 i rs[i] (List.getElem?_eq_getElem hi2)
      have c2 := (HB.out.cell (p := ⟨g', o' + i * 2, none⟩) lg').trans c2
      have c3 := (HB.out.cell (p := ⟨g', o' + i * 2 + 1, none⟩) lg').trans c3
      obtain ⟨A2, q2, e2, _⟩ := id b2
      obtain ⟨n2, hn2⟩ : ∃ n2, n2 = rs[i].2.length := ⟨_, rfl⟩
      rw [← hn2] at e2
      subst e2
      obtain ⟨x, hx⟩ : ∃ x : Nat, x = rs[i].1 := ⟨_, rfl⟩
      have e1 : ((x, rs[i].2) : Re) = rs[i] := by rw [hx]
      rw [← hx] at c2
      have hle : ((rs.take i).filter fun r => decide (k ≤ (r.1 : Int))).length ≤ 1000 := by
        have h1 := List.length_filter_le (fun r : Re => decide (k ≤ (r.1 : Int))) (rs.take i)
        rw [List.length_take] at h1
        omega
      have HAP := Lib.hid (app_reco (r := (x, rs[i].2)) (u := .slice A2 n2 q2) HO.out.1 (HW.out.trans (HB.out.mono HW.out.size)) hle rfl b2)
      have htk : rs.take (i + 1) = rs.take i ++ [rs[i]] := List.take_succ_eq_append_getElem hi2
      have HTK := Lib.hid htk
      have HX := Lib.hid e1
      clear hc3 b2 hn2 hx hle htk e1
      by_cases hk : k ≤ (x : Int)
      · obtain ⟨A', n', c', w', hr, hro, hbw, hj1, hj2⟩ := HAP.out
        have HBW : Hid (Below w.heap.size w w') := HB.out.trans ⟨hj1.1.os, hj1.1.tape, hj1.1.output, hj1.1.size, fun a ha => hj1.2 a (Nat.lt_of_lt_of_le ha HB.out.size) (fun e => by have := HO.out.2 a e; omega)⟩
        have HRO : Hid (RecO w0 w' (.slice A' n' c') (((rs.take i).filter fun r => decide (k ≤ (r.1 : Int))) ++ [(x, rs[i].2)]) ∧ ∀ a, (Value.slice A' n' c').ownBlock = some a → w.heap.size ≤ a) := ⟨hro, fun a ha => by
          rcases hj2 a ha with h8 | h8
          · exact HO.out.2 a h8
          · exact Nat.le_trans HB.out.size h8⟩
        clear hj1 hj2
        have HKX := Lib.hid hk
        clear hro hbw
        go_wp2_with (refine wpList_app_run _ rfl _ _ 64 rfl _ (.slice (some ⟨_, 0, none⟩) 1 1) rfl rfl (.slice A' n' c') w' hr ?_; clear hr)
        go_roundg (n - (i + 1))
        case measure => omega
        case rel =>
          refine ⟨i + 1, rfl, hlt, by go_num, HBW.out, ?_⟩
          show RecO w0 w' _ _ ∧ _
          rw [HTK.out, List.filter_append, ← HX.out]
          have h3 : [((x, rs[i].2) : Re)].filter (fun r => decide (k ≤ (r.1 : Int))) = [(x, rs[i].2)] := by simp [HKX.out]
          rw [h3]
          exact HRO.out
      · have HKX := Lib.hid hk
        go_wp2
        go_roundg (n - (i + 1))
        case measure => omega
        case rel =>
          refine ⟨i + 1, rfl, hlt, by go_num, HB.out, ?_⟩
          show RecO w0 _ _ _ ∧ _
          rw [HTK.out, List.filter_append, ← HX.out]
          have h3 : [((x, rs[i].2) : Re)].filter (fun r => decide (k ≤ (r.1 : Int))) = [] := by simp; have := HKX.out; omega
          rw [h3, List.append_nil]
          exact HO.out
    · have hil : i = n := by omega
      subst hil
      have t1 : decide ((i : Int) < (i : Int)) = false := by simp
      go_wp2
      go_ret
      refine ⟨_, rfl, ?_, HB.out, HO.out.2⟩
      have h3 : rs.take i = rs := by rw [HL.out, List.take_length]
      have h4 := HO.out.1
      rw [h3] at h4
      exact h4
end Go.Proofs.Ytklngdmpledgeaa.Jo

namespace Go.Proofs.Ytklngdmpledgeaa.Jo
open Go.RowKit Fr Sr

/-- Behind the change, with the law's two lists. -/
def EH (w : World) (p : Nat) (v : Value) (rs : List Re) (v2 : Value) (rs2 R : List Re) (q : Bool) (W : World) : Prop :=
  ∃ s mb L, StR W p s mb L ∧ (q = true → s.a = false ∧ s.d = false) ∧ Has L R ∧ (bytL L klog).length ≤ 800 ∧ RecO w W v rs ∧ RecO w W v2 rs2 ∧ Below w.heap.size w W ∧ ∀ k, own p mb L k → w.heap.size ≤ k ∧ v.ownBlock ≠ some k ∧ v2.ownBlock ≠ some k
theorem RecO.below {w W W' : World} {v : Value} {rs : List Re} (h : RecO w W v rs) (hb : Below W.heap.size W W') : RecO w W' v rs := h.kept (Off.of_below (fun _ => False) hb) (fun _ _ e => e)
theorem EF.ro {w W : World} {p : Nat} {v : Value} {rs R : List Re} (h : EF w p v rs R W) : RecO w W v rs := by
  obtain ⟨s, mb, L, hs, hh, hl, hro, hw, ho⟩ := h
  exact hro
theorem EF.bel {w W : World} {p : Nat} {v : Value} {rs R : List Re} (h : EF w p v rs R W) : Below w.heap.size w W := by
  obtain ⟨s, mb, L, hs, hh, hl, hro, hw, ho⟩ := h
  exact hw
theorem EI.ro {w W : World} {p j t nx : Nat} {v : Value} {rs rq : List Re} (h : EI w p j t nx v rs rq W) : RecO w W v rq := by
  obtain ⟨mb, L, sv, xs, u, _, _, _, _, hro, _⟩ := h
  exact hro
theorem EF.thenE {w W W' : World} {p : Nat} {v v2 : Value} {rs rs2 R : List Re} (h : EF w p v rs R W) (hb : Below W.heap.size W W') (h2 : RecO w W' v2 rs2) (hn : ∀ k, v2.ownBlock = some k → W.heap.size ≤ k) : EH w p v rs v2 rs2 R false W' := by
  obtain ⟨s, mb, L, hs, hh, hl, hro, hw, ho⟩ := h
  refine ⟨s, mb, L, hs.below hb, (fun e => by cases e), hh, hl, hro.below hb, h2, hw.trans (hb.mono hw.size), fun k hk => ⟨(ho k hk).1, (ho k hk).2, fun e => ?_⟩⟩
  have := hn k e
  have := own_lt hs hk
  omega
theorem e_rev {w W : World} {p : Nat} {v v2 : Value} {rs rs2 R : List Re} (h : EH w p v rs v2 rs2 R false W) : Calls Try.prog 26 #[.pointer (some ⟨p, 0, none⟩)] W fun e W' => e = .returned (.tuple #[]) ∧ EH w p v rs v2 rs2 R true W' := by
  obtain ⟨s, mb, L, hs, _, hh, hl, hro, hro2, hw, ho⟩ := h
  refine (Revive_any W p s mb L hs).mono ?_
  rintro e W' ⟨rfl, hm⟩
  exact ⟨rfl, _, mb, L, hm.st, fun _ => ⟨rfl, rfl⟩, hh, hl, hro.kept hm.off (fun k hk e => (ho k e).2.1 hk), hro2.kept hm.off (fun k hk e => (ho k e).2.2 hk), hw.trans (hm.off.below (fun k hk => (ho k hk).1) hw.size), ho⟩
/-- Opened again. -/
def EO (w : World) (o : Nat) (v : Value) (rs : List Re) (v2 : Value) (rs2 R : List Re) (W : World) : Prop :=
  (∃ p t s mb L nx sv xs, JSt W p s mb L o t true nx sv xs R) ∧ RecO w W v rs ∧ RecO w W v2 rs2 ∧ Below w.heap.size w W
theorem EO.below {w W W' : World} {o : Nat} {v v2 : Value} {rs rs2 R : List Re} (h : EO w o v rs v2 rs2 R W) (hb : Below W.heap.size W W') : EO w o v rs v2 rs2 R W' := by
  obtain ⟨⟨p, t, s, mb, L, nx, sv, xs, hj⟩, h1, h2, h3⟩ := h
  exact ⟨⟨p, t, s, mb, L, nx, sv, xs, hj.below hb⟩, h1.below hb, h2.below hb, h3.trans (hb.mono h3.size)⟩
theorem e_open2 {w W : World} {p n : Nat} {v v2 : Value} {rs rs2 R : List Re} (h : EH w p v rs v2 rs2 R true W) (hs : Sq n R) (hb : Bnd R) (hbk : ∀ r ∈ R, bok r.2) : Calls Try.prog 38 #[.pointer (some ⟨p, 0, none⟩)] W fun e W' => ∃ o, e = .returned (.tuple #[.pointer (some ⟨o, 0, none⟩), .int .i64 0]) ∧ EO w o v rs v2 rs2 R W' := by
  obtain ⟨s, mb, L, hst, hq, hh, hl, hro, hro2, hw, ho⟩ := h
  refine (open_has hst (hq rfl).1 (hq rfl).2 hh hs hb hbk hl).mono ?_
  rintro e W' ⟨s2, L2, nx, j, t, sv, xs, mb', L', rfl, hj, _, hoff, _, _⟩
  exact ⟨j, rfl, ⟨p, t, s2, mb', L', nx, sv, xs, hj⟩, hro.kept hoff (fun k hk e => (ho k e).2.1 hk), hro2.kept hoff (fun k hk e => (ho k e).2.2 hk), hw.trans (hoff.below (fun k hk => (ho k hk).1) hw.size)⟩
theorem e_recs {w W : World} {o : Nat} {v v2 : Value} {rs rs2 R : List Re} (h : EO w o v rs v2 rs2 R W) (hb : Bnd R) : Calls Try.prog 42 #[.pointer (some ⟨o, 0, none⟩), .int .i64 0] W fun e W' => ∃ vr, e = .returned vr ∧ RowsA W' vr (R.map (·.2)) ∧ EO w o v rs v2 rs2 R W' := by
  have h0 := h
  obtain ⟨⟨p, t, s, mb, L, nx, sv, xs, hj⟩, _⟩ := h
  have hk : keyR R 0 = 0 := by
    unfold keyR
    cases R with
    | nil => rfl
    | cons r l => rw [List.takeWhile_cons, if_neg (by simp)]; rfl
  have hr := records_any hj 0 (fun r hr => by have := (hb r hr).1; omega)
  rw [pl_vals hj.jr.vals, hk] at hr
  refine hr.mono ?_
  rintro e W' ⟨vr, rfl, hv, hbel⟩
  exact ⟨vr, rfl, hv.toA, h0.below hbel⟩
theorem e_sound {w W : World} {o : Nat} {v v2 : Value} {rs rs2 R : List Re} (h : EO w o v rs v2 rs2 R W) : Calls Try.prog 45 #[.pointer (some ⟨o, 0, none⟩)] W fun e W' => e = .returned (.bool true) ∧ W = W' := by
  obtain ⟨⟨p, t, s, mb, L, nx, sv, xs, hj⟩, _⟩ := h
  exact sound_any hj
theorem below_off {W0 W W' : World} {S : Nat → Prop} (hb : Below W0.heap.size W0 W) (ho : Off S W W') (hS : ∀ k, S k → W0.heap.size ≤ k) : Below W0.heap.size W0 W' := hb.trans (ho.below hS hb.size)
theorem sq_filter : ∀ (rs : List Re) (a : Nat) (k : Int), Sq a rs → rs.filter (fun r => decide (k ≤ (r.1 : Int))) = rs.drop (keyR rs k)
  | [], _, _, _ => rfl
  | r :: rs, a, k, h => by
    by_cases hk : k ≤ (r.1 : Int)
    · have e1 : keyR (r :: rs) k = 0 := by unfold keyR; rw [List.takeWhile_cons, if_neg (by simp; omega)]; rfl
      rw [e1, List.drop_zero]
      refine List.filter_eq_self.2 fun q hq => ?_
      have hge : ∀ (l : List Re) (b : Nat), Sq b l → ∀ q ∈ l, b ≤ q.1 := by
        intro l
        induction l with
        | nil => intro b _ q hq; cases hq
        | cons x l ih =>
          intro b hb q hq
          rcases List.mem_cons.1 hq with e | hq
          · rw [e, hb.1]; exact Nat.le_refl _
          · have := ih (b + 1) hb.2 q hq; omega
      have h2 := hge (r :: rs) a h q hq
      have h3 := h.1
      exact decide_eq_true (by omega)
    · have e1 : keyR (r :: rs) k = keyR rs k + 1 := by unfold keyR; rw [List.takeWhile_cons, if_pos (by simp; omega)]; rfl
      rw [e1, List.drop_succ_cons, List.filter_cons_of_neg (by simpa using hk)]
      exact sq_filter rs (a + 1) k h.2
theorem sq_drop : ∀ (rs : List Re) (a m : Nat), Sq a rs → Sq (a + m) (rs.drop m)
  | [], _, _, _ => by rw [List.drop_nil]; trivial
  | r :: rs, a, 0, h => h
  | r :: rs, a, m + 1, h => by
    have h1 := sq_drop rs (a + 1) m h.2
    rw [List.drop_succ_cons, show a + (m + 1) = a + 1 + m by omega]
    exact h1
theorem own_empty (W : World) (base : Nat) (h : base ≤ W.heap.size) : (W.alloc (.cells #[] 68)).ownsRow base 68 2 (.slice (some ⟨W.heap.size, 0, none⟩) 0 0) 0 [] := by
  refine ⟨rfl, .inr ⟨W.heap.size, 0, #[], rfl, h, block_new W _, Nat.le_refl _, Nat.zero_le _, rfl, rfl⟩⟩
/-- All records behind none. -/
theorem e_all {w W : World} {v : Value} {rs : List Re} (h : RecO w W v rs) (hw : Below w.heap.size w W) (hn : rs.length ≤ 1000) :
    ∃ A n c w', (Builtin.append_ #[64, 64] 64 #[.slice (some ⟨W.heap.size, 0, none⟩) 0 0, v]).run Try.prog (W.alloc (.cells #[] 68)) = .ok (.slice A n c) w' ∧ RecO w w' (.slice A n c) rs ∧ Below W.heap.size W w' ∧ ∀ k, (Value.slice A n c).ownBlock = some k → W.heap.size ≤ k := by
  obtain ⟨us, h1, h2⟩ := h
  obtain ⟨i0, hi0, hz0, hz1, hz2⟩ := info_parts recInf
  have hal := alloc_below W (.cells #[] 68)
  have hown := own_empty W W.heap.size (Nat.le_refl _)
  have hul : us.length = rs.length * 2 := h1.1
  rcases h1.2 with ⟨e, h0⟩ | ⟨g, cap, cur, e, hg, hh, hc1, hc2, hs1, hs2⟩
  · subst e
    have hr0 : rs = [] := List.length_eq_zero_iff.1 h0
    subst hr0
    refine ⟨_, 0, 0, _, ?_, ⟨[], own_empty W w.heap.size hw.size, fun i r hi => by simp at hi⟩, hal, fun k hk => ?_⟩
    · simp [Builtin.append_, run_underlying Try.underlying64, sizeOf, typeInfo, hi0, Builtin.lenOf, Builtin.firstCells, storeCells]
      try rfl
    · cases hk; exact Nat.le_refl _
  · subst e
    have hgW : g < W.heap.size := (Array.getElem?_eq_some_iff.1 hh).1
    have hkept := Oc.ownsRow_kept h1 (fun q hq => hal.block q (h1.lt q hq).2)
    obtain ⟨v', w', hr, ho, hgr, _, hat⟩ := run_append_own_at (P := Try.prog) _ W.heap.size 64 64 68 i0 _ 2 32 Try.underlying64 hi0 hz0 hz1 hz2 rfl (by decide) _ 0 [] hown ⟨g, 0, none⟩ rs.length cap us hul (fun j u hj => hkept.cells (g := g) rfl j u hj) (fun u hu => by
      obtain ⟨j, hj, e⟩ := List.mem_iff_getElem.1 hu
      have hj2 : j / 2 < rs.length := by omega
      obtain ⟨y, a1, a2, ⟨A, q, a3, _⟩⟩ := h2 (j / 2) _ (List.getElem?_eq_getElem hj2)
      rcases Nat.mod_two_eq_zero_or_one j with h5 | h5
      · rw [show j / 2 * 2 = j by omega, List.getElem?_eq_getElem hj, e] at a1
        rw [Option.some.inj a1]; rfl
      · rw [show j / 2 * 2 + 1 = j by omega, List.getElem?_eq_getElem hj, e] at a2
        rw [Option.some.inj a2, a3]; rfl) (by unfold maxLen; omega) (by omega) (by simp)
    obtain ⟨A, m, c, rfl⟩ : ∃ A n c, v' = .slice A n c := by
      rcases ho.2 with ⟨h7, _⟩ | ⟨g, cap, cur, h7, _⟩
      · exact ⟨none, 0, 0, h7⟩
      · exact ⟨_, _, _, h7⟩
    rw [List.nil_append, Nat.zero_add] at ho
    have hb : Below W.heap.size W w' := hal.grown hgr hal.size (fun i e => by cases e; exact Nat.le_refl _)
    exact ⟨A, m, c, w', hr, ⟨us, Go.Joins.ownsRow_le ho hw.size, h2⟩, hb, fun k hk => (ho.lt k hk).1⟩
end Go.Proofs.Ytklngdmpledgeaa.Jo
