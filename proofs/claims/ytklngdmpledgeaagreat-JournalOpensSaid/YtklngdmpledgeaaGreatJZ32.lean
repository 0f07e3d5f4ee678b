/-
  JournalOpens: the law's steps. Conditions: at most six hundred bytes.
-/
import Derived.Test.YtklngdmpledgeaaGreatJZ30
import Derived.Test.YtklngdmpledgeaaGreatJZ31
import Derived.Test.YtklngdmpledgeaaGreatJZ18
import Derived.Test.YtklngdmpledgeaaGreatSBytes
import Derived.ProofKit
import Derived.OpenShut
import Derived.ChangeOld
import Derived.Lib.SmallJoins
import Derived.ChangeMaps5
import Derived.Test.YtklngdmpledgeaaGreatJZ2
namespace Go.Proofs.YtklngdmpledgeaaGreat.Jo
open Go.RowKit Fr Sr

/-- A store with room for a hundred thousand bytes that is not armed. -/
def VS (u : Int) : S := ⟨false, 0, false, 100000, u⟩
theorem vs_app (u : Int) (m : Nat) (h : u + m ≤ 100000) : appE (VS u) klog m = 0 ∧ appS (VS u) klog m = VS (u + m) := by
  have e1 : rdy (VS u).d [klog] = 0 := okLog
  have e2 : ¬ (VS u).room < (VS u).used + (m : Int) := by unfold VS; simp; omega
  have e3 : useS (VS u) (m : Int) = VS u := rfl
  have e4 : useN (VS u) (m : Int) = m := by simp [useN, VS]
  refine ⟨?_, ?_⟩
  · unfold appE
    rw [e1, if_neg (by decide), if_neg e2, e3]
    rfl
  · unfold appS
    rw [if_pos ⟨e1, e2⟩, e3, e4, if_pos (by omega)]
    rfl
theorem vs_appL (u : Int) (L : List Fi) (bs : List Int) (h : u + bs.length ≤ 100000) : appL (VS u) L klog bs = putL L klog (dv, bytL L klog ++ bs) := by
  have e1 : rdy (VS u).d [klog] = 0 := okLog
  have e2 : ¬ (VS u).room < (VS u).used + (bs.length : Int) := by unfold VS; simp; omega
  have e4 : useN (VS u) (bs.length : Int) = bs.length := by simp [useN, VS]
  unfold appL
  rw [if_pos ⟨e1, e2⟩, e4, if_pos (by omega)]
  simp
theorem vs_cut (u : Int) (L : List Fi) (z : Nat) (h1 : hasL L klog = true) (h2 : z ≤ (bytL L klog).length) : cutE (VS u) L klog (z : Int) = 0 ∧ cutS (VS u) L klog (z : Int) = VS (u + ((z : Int) - ((bytL L klog).length : Int))) ∧ cutL (VS u) L klog (z : Int) = putL L klog (dv, (bytL L klog).take z) := by
  have e1 : fnd (VS u).d L klog [klog] = 0 := by
    unfold fnd
    rw [show (VS u).d = false from rfl, okLog, if_neg (by decide), h1]
    rfl
  have e2 : ¬ ((z : Int) < 0 ∨ ((bytL L klog).length : Int) < (z : Int)) := by omega
  have e3 : useS (VS u) 1 = VS u := rfl
  have e4 : useN (VS u) 1 = 1 := rfl
  have e5 : cutB (VS u) L klog (z : Int) := ⟨e1, e2⟩
  refine ⟨?_, ?_, ?_⟩
  · unfold cutE
    rw [e1, if_neg (by decide), if_neg e2, e3]; rfl
  · unfold cutS
    rw [if_pos e5, if_pos e4, e3]; rfl
  · unfold cutL
    rw [if_pos e5, if_pos e4]; simp
/-- The store has the file B, and nothing of what was there. -/
def OW (w : World) (p : Nat) (B : List Int) (W : World) : Prop := ∃ mb L, StR W p (VS (B.length : Int)) mb L ∧ bytL L klog = B ∧ hasL L klog = true ∧ (∀ i, own p mb L i → w.heap.size ≤ i) ∧ Below w.heap.size w W
theorem o_write {w w1 : World} {p m c : Nat} {A : Option Addr} {B : List Int} (h : StR w1 p (VS 0) none []) (hp : w.heap.size ≤ p) (hw : Below w.heap.size w w1) (hB : BAt w (.slice A m c) B) (hm : m ≤ 600) :
    Calls Tryz.prog 5 #[.pointer (some ⟨p, 0, none⟩), .string klog, .slice A m c] w1 fun e w2 => e = .returned (.int .i64 0) ∧ OW w p B w2 := by
  have hl := hB.len.1
  have e1 : rdy (VS 0).d [klog] = 0 := okLog
  have h1 := write_put w1 p (VS 0) none [] klog A m c B m h e1 (by simp [VS, bytL]; omega) (by omega) hl (by simp [useN, VS]; omega) (fun w' ho => by
    refine hB.kept (hw.trans ((ho.below (n0 := w.heap.size) (fun i hi => ?_) hw.size)))
    rw [own_nil hi]; exact hp)
  refine h1.mono ?_
  rintro e w2 ⟨rfl, mb', v', hmv⟩
  refine ⟨rfl, mb', putL [] klog (v', B.take m), ?_, ?_, by rw [has_put, if_pos rfl], fun i hi => ?_, ?_⟩
  · have h2 := hmv.st
    have e2 : ({ useS (VS 0) (1 + (m : Int)) with used := (VS 0).used + ((m : Int) - ((bytL [] klog).length : Int)) } : S) = VS (B.length : Int) := by
      show (⟨false, 0, false, 100000, _⟩ : S) = ⟨false, 0, false, 100000, _⟩
      congr 1
      simp [VS, bytL, hl]
    rw [e2] at h2
    exact h2
  · rw [byt_put, if_pos rfl, ← hl, List.take_length]
  · rcases hmv.new i hi with h3 | h3
    · rw [own_nil h3]; exact hp
    · exact Nat.le_trans hw.size h3
  · exact hw.trans (hmv.off.below (fun i hi => by rw [own_nil hi]; exact hp) hw.size)
theorem recB_base {w0 w w' W : World} {v : Value} {rs : List Re} (h : RecB w0 w W v rs) (hb : w'.heap.size ≤ w.heap.size) : RecB w0 w' W v rs := by
  obtain ⟨us, h2, h3⟩ := h
  exact ⟨us, ⟨h2.1, h2.2.imp id (fun ⟨g, cap, cur, e, hg, r⟩ => ⟨g, cap, cur, e, Nat.le_trans hb hg, r⟩)⟩, h3⟩
theorem recB_kept {S : Nat → Prop} {w0 w W W' : World} {v : Value} {rs : List Re} (h : RecB w0 w W v rs) (ho : Off S W W') (hv : ∀ k, v.ownBlock = some k → ¬ S k) : RecB w0 w W' v rs := by
  obtain ⟨us, h1, h2⟩ := h
  exact ⟨us, Oc.ownsRow_kept h1 (fun g hg => ho.2 g (h1.lt g hg).2 (hv g hg)), h2⟩
/-- What counts is told too. -/
def OC (w : World) (p : Nat) (B : List Int) (v : Value) (W : World) : Prop := ∃ mb L, StR W p (VS (B.length : Int)) mb L ∧ bytL L klog = B ∧ hasL L klog = true ∧ (∀ i, own p mb L i → w.heap.size ≤ i ∧ v.ownBlock ≠ some i) ∧ RecB w w W v (recs (cnt B)) ∧ Below w.heap.size w W
theorem o_counts {w w2 : World} {p m c : Nat} {A : Option Addr} {B : List Int} (h : OW w p B w2) (hB : BAt w (.slice A m c) B) (hb : bok B) (hm : m ≤ 600) :
    Calls Tryz.prog 6 #[.slice A m c] w2 fun e w3 => ∃ A' n' c', e = .returned (.tuple #[.slice A' n' c', .int .i64 (whole (cnt B) : Int)]) ∧ OC w p B (.slice A' n' c') w3 := by
  obtain ⟨mb, L, h1, h2, h3, h4, h5⟩ := h
  refine (rcounts_any w w2 h5 A m c B hB hb hm).mono ?_
  rintro e w3 ⟨⟨A', n', c', rfl, hr⟩, hb3⟩
  refine ⟨A', n', c', rfl, mb, L, h1.below hb3, h2, h3, fun i hi => ⟨h4 i hi, fun e => ?_⟩, recB_base hr h5.size, h5.trans (hb3.mono h5.size)⟩
  obtain ⟨us, h6, _⟩ := hr
  have := (h6.lt i e).1
  have := own_lt h1 hi
  omega
/-- The journal over the store, whose file is C. -/
def OO (w : World) (p j t nx : Nat) (B C : List Int) (v : Value) (rs : List Re) (W : World) : Prop :=
  ∃ u mb L sv xs, JSt W p (VS u) mb L j t true nx sv xs rs ∧ (0 ≤ u ∧ u ≤ 3000 + 118 * (rs.length : Int)) ∧ bytL L klog = C ∧ (∀ i, Tj p mb L j t sv i → w.heap.size ≤ i ∧ v.ownBlock ≠ some i) ∧ RecB w w W v (recs (cnt B)) ∧ Below w.heap.size w W
theorem OO.bel {w W : World} {p j t nx : Nat} {B C : List Int} {v : Value} {rs : List Re} (h : OO w p j t nx B C v rs W) : Below w.heap.size w W := by
  obtain ⟨_, _, _, _, _, _, _, _, _, _, h1⟩ := h
  exact h1
theorem OO.below {w W W' : World} {p j t nx : Nat} {B C : List Int} {v : Value} {rs : List Re} (h : OO w p j t nx B C v rs W) (hb : Below W.heap.size W W') : OO w p j t nx B C v rs W' := by
  obtain ⟨u, mb, L, sv, xs, h1, h2, h3, h4, h5, h6⟩ := h
  exact ⟨u, mb, L, sv, xs, h1.below hb, h2, h3, h4, recB_below h5 hb, h6.trans (hb.mono h6.size)⟩
theorem frs_end : ∀ (k p : Nat) (l : List Int), ∀ f ∈ Fr.frs k p l, f.1 + f.2.length + 8 ≤ p + l.length
  | 0, _, _, f, h => by simp [Fr.frs] at h
  | k + 1, p, l, f, h => by
    unfold Fr.frs at h
    split at h
    · rename_i hn
      obtain ⟨h2, h3⟩ := nxN_ok hn
      rcases List.mem_cons.1 h with rfl | h
      · show p + (nxB l).length + 8 ≤ _
        omega
      · have h4 := frs_end k (p + nxN l) (l.drop (nxN l)) f h
        rw [List.length_drop] at h4
        omega
    · cases h
theorem cntF_from : ∀ (fs : List Fr) (nx : Nat) (x : Rc), x ∈ cntF nx fs → ∃ f ∈ fs, x.1 = f.1 + f.2.length + 8 ∧ dec f.2 = some x.2 := by
  intro fs
  induction fs with
  | nil => intro nx x hx; simp [cntF] at hx
  | cons f fs ih =>
    intro nx x hx
    cases hd : dec f.2 with
    | none => rw [cntF_none hd] at hx; cases hx
    | some y =>
      by_cases hs : 0 < f.1 ∧ y.1 ≠ nx
      · rw [cntF_bad hd hs] at hx; cases hx
      · rw [cntF_good hd hs] at hx
        rcases List.mem_cons.1 hx with rfl | h
        · exact ⟨f, List.mem_cons_self, rfl, hd⟩
        · obtain ⟨g, h1, h2⟩ := ih _ _ h
          exact ⟨g, List.mem_cons_of_mem _ h1, h2⟩
theorem cnt_from (B : List Int) {x : Rc} (h : x ∈ cnt B) : ∃ l : List Int, l.length + 8 ≤ B.length ∧ x.1 ≤ B.length ∧ dec l = some x.2 := by
  obtain ⟨f, h1, h2, h3⟩ := cntF_from _ _ _ h
  have h4 := frs_end _ _ _ f h1
  exact ⟨f.2, by omega, by omega, h3⟩
theorem whole_len (B : List Int) : whole (cnt B) ≤ B.length := by
  unfold whole
  split
  · exact Nat.zero_le _
  · rename_i x hx
    obtain ⟨_, _, h, _⟩ := cnt_from B (List.mem_of_getLast? hx)
    exact h
theorem o_open {w W : World} {p : Nat} {B : List Int} {v : Value} (h : OC w p B v W) (hb : bok B) (hm : B.length ≤ 600) :
    Calls Tryz.prog 7 #[.pointer (some ⟨p, 0, none⟩)] W fun e W' => ∃ j t, e = .returned (.tuple #[.pointer (some ⟨j, 0, none⟩), .int .i64 0]) ∧ OO w p j t (nxt (cnt B)) B (B.take (whole (cnt B))) v (recs (cnt B)) W' := by
  obtain ⟨mb, L, h1, h2, h3, h4, h5, h6⟩ := h
  have hz := whole_len B
  obtain ⟨c1, c2, c3⟩ := vs_cut (B.length : Int) L (whole (cnt B)) h3 (by rw [h2]; exact hz)
  have ho := open_ok h1 rfl (by rw [h2]; omega) (by rw [h2]; exact hb) (by rw [h2]; exact fun _ => c1)
  rw [h2] at ho c2 c3
  refine ho.mono ?_
  rintro e W' ⟨j, t, sv, xs, mb', L', rfl, hj, hal, hoff, hn, hn2⟩
  have hS : ∃ u, (if whole (cnt B) < B.length then cutS (VS (B.length : Int)) L klog (whole (cnt B) : Int) else VS (B.length : Int)) = VS u ∧ 0 ≤ u ∧ u ≤ 3000 := by
    split
    · exact ⟨_, c2, by omega, by omega⟩
    · exact ⟨_, rfl, by omega, by omega⟩
  have hC : bytL (if whole (cnt B) < B.length then cutL (VS (B.length : Int)) L klog (whole (cnt B) : Int) else L) klog = B.take (whole (cnt B)) := by
    split
    · rw [c3, byt_put, if_pos rfl]
    · rw [h2, List.take_of_length_le (by omega)]
  obtain ⟨u, hu, hu2⟩ := hS
  rw [hu] at hj
  refine ⟨j, t, rfl, u, mb', L', sv, xs, hj, by omega, (hal klog).2.trans hC, fun i hi => ?_, recB_kept h5 hoff (fun k hk hi => (h4 k hi).2 hk), h6.trans (hoff.below (fun i hi => (h4 i hi).1) h6.size)⟩
  have hnew : ∀ i, W.heap.size ≤ i → w.heap.size ≤ i ∧ v.ownBlock ≠ some i := fun i hi => by
    refine ⟨Nat.le_trans h6.size hi, fun e => ?_⟩
    obtain ⟨us, h7, _⟩ := h5
    have := (h7.lt i e).2
    omega
  rcases hi with hi | hi
  · rcases hn i hi with h7 | h7
    · exact h4 i h7
    · exact hnew i h7
  · exact hnew i (hn2 i hi)
theorem dec_len {l : List Int} {y : Nat × List Int} (h : dec l = some y) : y.2.length ≤ l.length := by
  unfold dec at h
  split at h
  · rw [← Option.some.inj h]
    exact Sp.rg_len
  · cases h
theorem cnt_bnd (B : List Int) (hm : B.length ≤ 600) : ∀ r ∈ recs (cnt B), r.1 ≤ 4611686018427387903 ∧ r.2.length ≤ 600 := by
  intro r hr
  obtain ⟨x, hx, rfl⟩ := List.mem_map.1 hr
  obtain ⟨l, h1, _, h2⟩ := cnt_from B hx
  have := dec_len h2
  exact ⟨dec_le h2, by omega⟩
theorem recs_len (B : List Int) : (recs (cnt B)).length ≤ B.length := by
  have := cnt_len B
  simpa [recs] using this
theorem o_next {w W : World} {p j t nx : Nat} {B C : List Int} {v : Value} {rs : List Re} (h : OO w p j t nx B C v rs W) (hm : B.length ≤ 600) :
    Calls Tryz.prog 9 #[v] W fun e W' => e = .returned (.int .i64 (nxt (cnt B) : Int)) ∧ W = W' := by
  obtain ⟨u, mb, L, sv, xs, h1, h2, h3, h4, h5, h6⟩ := h
  have hl := recs_len B
  rw [← nxtR_recs]
  exact lnext_any W v _ (h5.toA h6) (by omega) (fun r hr => (cnt_bnd B hm r hr).1)
theorem o_is {w W : World} {p j t : Nat} {B C : List Int} {v : Value} (h : OO w p j t (nxt (cnt B)) B C v (recs (cnt B)) W) (hm : B.length ≤ 600) :
    Calls Tryz.prog 8 #[.pointer (some ⟨j, 0, none⟩), v, .int .i64 (nxt (cnt B) : Int)] W fun e W' => e = .returned (.bool true) ∧ Below W.heap.size W W' := by
  obtain ⟨u, mb, L, sv, xs, h1, h2, h3, h4, h5, h6⟩ := h
  have hl := recs_len B
  exact is_any h1 (h5.toA h6) (by omega) (fun r hr => by have := (cnt_bnd B hm r hr).2; omega)
theorem o_is2 {w W : World} {p j t nx : Nat} {B C : List Int} {v : Value} (hn : nx = nxt (cnt B)) (h : OO w p j t nx B C v (recs (cnt B)) W) (hm : B.length ≤ 600) :
    Calls Tryz.prog 8 #[.pointer (some ⟨j, 0, none⟩), v, .int .i64 (nx : Int)] W fun e W' => e = .returned (.bool true) ∧ Below W.heap.size W W' := by
  rw [hn] at h ⊢
  exact o_is h hm
theorem o_read {w W : World} {p j t nx : Nat} {B C : List Int} {v : Value} {rs : List Re} (h : OO w p j t nx B C v rs W) :
    Calls Tryz.prog 10 #[.pointer (some ⟨p, 0, none⟩), .string klog] W fun e W' => ∃ A n c q, e = .returned (.tuple #[.slice A n c, .bool q]) ∧ BAt W' (.slice A n c) C ∧ Below W.heap.size W W' := by
  obtain ⟨u, mb, L, sv, xs, h1, h2, h3, h4, h5, h6⟩ := h
  refine (read_any W p _ mb L klog h1.st).mono ?_
  rintro e W' ⟨A, n, c, rfl, hn, ho, hb⟩
  refine ⟨A, n, c, _, rfl, ?_, hb⟩
  rw [h3] at ho
  exact BAt.of_own ho
theorem o_app {w W : World} {p j t nx : Nat} {B C X : List Int} {v : Value} {rs : List Re} (h : OO w p j t nx B C v rs W) {A : Option Addr} {n c : Nat} (hX : BAt w (.slice A n c) X) (hbk : bok X) (hn : n ≤ 100) (hnx : nx ≤ 4611686018427387903) (hr : rs.length ≤ 600) :
    Calls Tryz.prog 12 #[.pointer (some ⟨j, 0, none⟩), .slice A n c] W fun e W' => e = .returned (.tuple #[.int .i64 (nx : Int), .int .i64 0]) ∧ OO w p j t (nx + 1) B (C ++ recF nx X) v (rs ++ [(nx, X)]) W' := by
  obtain ⟨u, mb, L, sv, xs, h1, ⟨h20, h21⟩, h3, h4, h5, h6⟩ := h
  have hl := hX.len.1
  have hfl : (recF nx X).length ≤ 118 := by
    rw [recF_len]
    have := (Oc.grp_len nx).1
    omega
  have hxl : xs.length = rs.length := h1.jr.vals.1
  have hu : u + ((recF nx X).length : Int) ≤ 100000 := by omega
  have ha := append_ok2 h1 (hX.kept h6) hbk (fun hp a n c ha htj => by
    have h7 : a.block < w.heap.size := bk_lt hX hp a n c ha
    have := (h4 _ htj).1
    omega) (by omega) hnx (by omega) (vs_app u _ hu).1
  rw [(vs_app u _ hu).2, vs_appL u L _ hu] at ha
  refine ha.mono ?_
  rintro e W' ⟨rfl, mb', L', sv', ⟨xs', hj', hal', _⟩, ho, hn⟩
  have hv : ∀ k, v.ownBlock = some k → ¬ Tj p mb L j t sv k := fun k hk htj => (h4 k htj).2 hk
  refine ⟨rfl, _, mb', L', sv', xs', hj', ⟨by omega, by rw [List.length_append]; simp; omega⟩, ?_, fun k hk => ?_, recB_kept h5 ho hv, h6.trans (ho.below (fun k hk => (h4 k hk).1) h6.size)⟩
  · rw [(hal' klog).2, byt_put, if_pos rfl, h3]
  · rcases hn k hk with h7 | h7
    · exact h4 k h7
    · refine ⟨Nat.le_trans h6.size h7, fun e => ?_⟩
      obtain ⟨us, h8, _⟩ := h5
      have := (h8.lt k e).2
      omega
theorem o_long {w W : World} {p j t : Nat} {B C : List Int} {v : Value} {rs : List Re} (h : OO w p j t 4611686018427387904 B C v rs W) (x : Value) :
    Calls Tryz.prog 12 #[.pointer (some ⟨j, 0, none⟩), x] W fun e W' => e = .returned (.tuple #[.int .i64 0, .int .i64 2]) ∧ W = W' := by
  obtain ⟨u, mb, L, sv, xs, h1, h2, h3, h4, h5, h6⟩ := h
  exact append_long h1 x
theorem j_new {w : World} {u : Value} {l : List Int} {m : Nat} (h : BAt w u l) (hl : l.length = m) (hm : m ≤ 1000000) :
    ∃ A c w', (Builtin.append_ #[22, 22] 22 #[.slice (some ⟨w.heap.size, 0, none⟩) 0 0, u]).run Tryz.prog (w.alloc (.cells #[] 5)) = .ok (.slice A m c) w' ∧ w'.ownsRow w.heap.size 5 1 (.slice A m c) m (bv l) ∧ Below w.heap.size w w' := by
  have hb : Below w.heap.size w (w.alloc (.cells #[] 5)) := (Below.refl _ _).alloc (Nat.le_refl _) _
  obtain ⟨A, c, w', h1, h2, h3⟩ := app_any (w.alloc (.cells #[] 5)) w.heap.size (.slice (some ⟨w.heap.size, 0, none⟩) 0 0) [] (World.ownsRow_made w #[] 0 (Nat.le_refl _) (Nat.zero_le _) rfl) u l (h.kept hb) (by simp; omega) (by simp)
  rw [List.nil_append] at h2
  rw [show ([] : List Int).length + l.length = m by simp [hl]] at h1 h2
  rw [hl] at h2
  exact ⟨A, c, w', h1, h2, hb.grown h3 hb.size (fun k hk => by cases hk; exact Nat.le_refl _)⟩
end Go.Proofs.YtklngdmpledgeaaGreat.Jo

namespace Go.Proofs.YtklngdmpledgeaaGreat.Fr
open Go.ChangeShapes Go.WideShapes Go.ChangeAt Go.RowKit Go.Joins Go.Deep

/-- A slice of bytes that came in holds bytes. -/
theorem open_bytes {H : Type} {enc : TypeId × Value → H} {w : World} {held : Bool} {fuel : Nat} {cs : List Value} {x : DataW H × List MemPlace} (h : DataW.trod enc Tryz.prog w 0 (fun _ => true) held fuel 22 cs = some x) :
    ∃ A len cap l, cs = [.slice A len cap] ∧ BAt w (.slice A len cap) l ∧ bok l := by
  rcases open_ints Tryz.underlying22 Tryz.underlying5 (by kernel_rfl) h with ⟨hcs, _⟩ | ⟨a, len, c, zs, hcs, _, hl, hm, hz, _, hcell, hwz⟩
  · exact ⟨none, 0, 0, [], hcs, BAt.nil w, fun x hx => absurd hx (List.not_mem_nil)⟩
  · have hzl : len ≤ zs.length := by simp at hz; omega
    have hll : (zs.take len).length = len := by rw [List.length_take]; omega
    refine ⟨some a, len, c, zs.take len, hcs, ⟨some a, c, by rw [hll], by rw [hll]; omega, fun hp => ?_⟩, fun y hy => ?_⟩
    · rw [hll] at hp ⊢
      obtain ⟨b, off, spot⟩ := a
      have hc := hcell 0 (by omega)
      have hspot : spot = none := by simpa [Addr.add] using World.cell?_spot hc
      subst hspot
      refine ⟨b, off, rfl, ?_, fun i hi => ?_⟩
      · have := World.block_lt_of_cell? _ _ hc
        simpa [Addr.add] using this
      · have := hcell i (by omega)
        rw [show (Addr.mk b off none).add i = ⟨b, off + i, none⟩ by unfold Addr.add; split <;> simp_all] at this
        rw [this, getD_take hi]
    · have := hwz y (List.mem_of_mem_take hy)
      simp [Lit.wf, IntKind.min, IntKind.max, IntKind.signed, IntKind.bits] at this
      omega
end Go.Proofs.YtklngdmpledgeaaGreat.Fr

namespace Go.Proofs.YtklngdmpledgeaaGreat.Fr
open Go.ChangeShapes Go.WideShapes Go.ChangeAt Go.RowKit Go.Joins Go.Deep

theorem rows_list {Q : Nat → List Int → Prop} (m : Nat) (h : ∀ i, i < m → ∃ p, Q i p) : ∃ ps : List (List Int), ps.length = m ∧ ∀ i p, ps[i]? = some p → Q i p := by
  induction m with
  | zero => exact ⟨[], rfl, fun i p hp => by simp at hp⟩
  | succ m ih =>
    obtain ⟨ps, h1, h2⟩ := ih (fun i hi => h i (by omega))
    obtain ⟨p, hp⟩ := h m (by omega)
    refine ⟨ps ++ [p], by simp [h1], fun i q hq => ?_⟩
    rcases Nat.lt_or_ge i ps.length with hi | hi
    · rw [List.getElem?_append_left hi] at hq
      exact h2 i q hq
    · rw [List.getElem?_append_right hi] at hq
      have hi0 : i - ps.length = 0 := by
        rcases Nat.eq_zero_or_pos (i - ps.length) with h0 | h0
        · exact h0
        · rw [List.getElem?_eq_none (by simp; omega)] at hq; cases hq
      rw [hi0] at hq
      have hqp : p = q := by simpa using hq
      subst hqp
      have : i = m := by omega
      subst this
      exact hp
theorem bytes_cellsOf : Tryz.prog.cellsOf 22 = 1 := by kernel_rfl
/-- A slice of slices of bytes that came in. -/
theorem open_rows {H : Type} {enc : TypeId × Value → H} {w : World} {held : Bool} {fuel : Nat} {cs : List Value} {x : DataW H × List MemPlace} (h : DataW.trod enc Tryz.prog w 0 (fun _ => true) held fuel 56 cs = some x) :
    ∃ A len cap, cs = [.slice A len cap] ∧ RIn w A len cap := by
  rcases open_slice Tryz.underlying56 h with h0 | ⟨a, len, cap, m, n, D, Pl, rfl, hb, hl, hm, hmm, rfl, hx⟩
  · exact ⟨none, 0, 0, h0.1, [], ⟨none, 0, rfl, Nat.le_refl _, fun h => absurd h (by decide)⟩, fun l hl => absurd hl (List.not_mem_nil)⟩
  · rw [if_pos rfl] at hmm
    have hcell : ∀ i, i < len → ∃ l : List Int, bok l ∧ ∃ u, w.cell? (a.add i) = some u ∧ BAt w u l := fun i hi => by
      obtain ⟨cs', h1, h2⟩ := hx i (by omega)
      rw [bytes_cellsOf, Nat.mul_one] at h1
      obtain ⟨_, hlen, hcell⟩ := World.cells?_some h1
      obtain ⟨A, n, c, l, h3, h4, h5⟩ := open_bytes h2
      subst h3
      have h6 := hcell 0 (by decide)
      have h7 : (a.add i).add 0 = a.add i := by unfold Addr.add; split <;> simp_all
      rw [h7] at h6
      exact ⟨l, h5, _, h6, h4⟩
    obtain ⟨ls, h1, h2⟩ := rows_list len hcell
    subst h1
    refine ⟨some a, _, cap, rfl, ls, ⟨some a, cap, rfl, hl, fun hp => ?_⟩, fun l hl => ?_⟩
    · obtain ⟨b, off, spot⟩ := a
      obtain ⟨_, _, u, hc, _⟩ := hcell 0 hp
      have hspot : spot = none := by simpa [Addr.add] using World.cell?_spot hc
      subst hspot
      refine ⟨b, off, rfl, ?_, fun i hi => ?_⟩
      · have := World.block_lt_of_cell? _ _ hc
        simpa [Addr.add] using this
      · obtain ⟨_, u, h3, h4⟩ := h2 i _ (List.getElem?_eq_getElem hi)
        rw [show (Addr.mk b off none).add i = ⟨b, off + i, none⟩ by unfold Addr.add; split <;> simp_all] at h3
        refine ⟨u, h3, ?_⟩
        rw [show ls.getD i [] = ls[i] by simp [List.getD, List.getElem?_eq_getElem hi]]
        exact h4
    · obtain ⟨i, hi⟩ := List.mem_iff_getElem?.1 hl
      exact (h2 i l hi).1
end Go.Proofs.YtklngdmpledgeaaGreat.Fr
