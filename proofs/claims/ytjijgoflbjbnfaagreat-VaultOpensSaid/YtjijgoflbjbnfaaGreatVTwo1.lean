/-
  A store with two files, and the vaults that were opened over it. Conditions: at most six hundred bytes each.
-/
import Derived.Test.YtjijgoflbjbnfaaGreatVTwo0
import Derived.Test.YtjijgoflbjbnfaaGreatVM17
import Derived.Test.YtjijgoflbjbnfaaGreatVM33
import Derived.Test.YtjijgoflbjbnfaaGreatVM34
import Derived.Test.YtjijgoflbjbnfaaGreatVM35
namespace Go.Proofs.YtjijgoflbjbnfaaGreat.Vt
open Go.RowKit Fr Sr Jo Sp

theorem frs_end : ∀ (k p : Nat) (l : List Int), ∀ f ∈ Fr.frs k p l, f.1 + f.2.length + 8 ≤ p + l.length
  | 0, _, _, f, h => by simp [Fr.frs] at h
  | k + 1, p, l, f, h => by
    unfold Fr.frs at h
    split at h
    · rename_i hn
      obtain ⟨h2, h3⟩ := nxN_ok hn
      rcases List.mem_cons.1 h with rfl | h
      · show p + (nxB l).length + 8 ≤ _
        omega
      · have h4 := frs_end k (p + nxN l) (l.drop (nxN l)) f h
        rw [List.length_drop] at h4
        omega
    · cases h
theorem cntF_from : ∀ (fs : List Fr) (nx : Nat) (x : Rc), x ∈ cntF nx fs → ∃ f ∈ fs, x.1 = f.1 + f.2.length + 8 ∧ dec f.2 = some x.2 := by
  intro fs
  induction fs with
  | nil => intro nx x hx; simp [cntF] at hx
  | cons f fs ih =>
    intro nx x hx
    cases hd : dec f.2 with
    | none => rw [cntF_none hd] at hx; cases hx
    | some y =>
      by_cases hs : 0 < f.1 ∧ y.1 ≠ nx
      · rw [cntF_bad hd hs] at hx; cases hx
      · rw [cntF_good hd hs] at hx
        rcases List.mem_cons.1 hx with rfl | h
        · exact ⟨f, List.mem_cons_self, rfl, hd⟩
        · obtain ⟨g, h1, h2⟩ := ih _ _ h
          exact ⟨g, List.mem_cons_of_mem _ h1, h2⟩
theorem cnt_from (B : List Int) {x : Rc} (h : x ∈ cnt B) : ∃ l : List Int, l.length + 8 ≤ B.length ∧ x.1 ≤ B.length ∧ dec l = some x.2 := by
  obtain ⟨f, h1, h2, h3⟩ := cntF_from _ _ _ h
  have h4 := frs_end _ _ _ f h1
  exact ⟨f.2, by omega, by omega, h3⟩
theorem whole_len (B : List Int) : whole (cnt B) ≤ B.length := by
  unfold whole
  split
  · exact Nat.zero_le _
  · rename_i x hx
    obtain ⟨_, _, h, _⟩ := cnt_from B (List.mem_of_getLast? hx)
    exact h
theorem dec_len {l : List Int} {y : Nat × List Int} (h : dec l = some y) : y.2.length ≤ l.length := by
  unfold dec at h
  split at h
  · rw [← Option.some.inj h]
    exact Sp.rg_len
  · cases h
theorem recs_bnd (B : List Int) : (∀ r ∈ recs (cnt B), r.2.length ≤ B.length) ∧ (recs (cnt B)).length ≤ B.length := by
  refine ⟨fun r hr => ?_, ?_⟩
  · obtain ⟨x, hx, rfl⟩ := List.mem_map.1 hr
    obtain ⟨l, h1, _, h2⟩ := cnt_from B hx
    have := dec_len h2
    omega
  · have := cnt_len B
    simpa [recs] using this
theorem lst_bnd : ∀ (n : Nat) (l : List Int), (lstS n l).2.1.length ≤ n ∧ ∀ x ∈ (lstS n l).2.1, x.length ≤ l.length
  | 0, l => ⟨Nat.le_refl _, fun x hx => by cases hx⟩
  | n + 1, l => by
    have hr : (Oc.rg l).2.2.length ≤ l.length := Sp.rg_len
    have ht : (txt l).2.1.length ≤ l.length ∧ (txt l).2.2.length ≤ l.length := by
      unfold txt
      split
      · exact ⟨by simp, Nat.le_refl _⟩
      · split
        · exact ⟨by simp, Nat.le_refl _⟩
        · split
          · exact ⟨by simp, Nat.le_refl _⟩
          · exact ⟨by simp only [List.length_take]; omega, by simp only [List.length_drop]; omega⟩
    unfold lstS
    split
    · obtain ⟨h1, h2⟩ := lst_bnd n (txt l).2.2
      refine ⟨by simp only [List.length_cons]; omega, fun x hx => ?_⟩
      rcases List.mem_cons.1 hx with e | hx
      · rw [e]; exact ht.1
      · have := h2 x hx; omega
    · exact ⟨by simp, fun x hx => by simp at hx; subst hx; simp⟩
theorem decL_10 (G : List Int) : (decL G).length ≤ 10000 ∧ ∀ x ∈ decL G, x.length ≤ G.length := by
  have hB : (opB G).length ≤ G.length := by
    unfold opB
    split
    · rw [List.length_take, List.length_drop]; omega
    · simp
  have hA : (allS (opB G)).2.1.length ≤ 10000 ∧ ∀ x ∈ (allS (opB G)).2.1, x.length ≤ G.length := by
    unfold allS
    split
    · obtain ⟨h1, h2⟩ := lst_bnd (cntS (opB G)).2.1 (cntS (opB G)).2.2
      have h3 : (cntS (opB G)).2.1 ≤ 10000 ∧ (cntS (opB G)).2.2.length ≤ (opB G).length := by
        have h5 : (Oc.rg (opB G)).2.2.length ≤ (opB G).length := Sp.rg_len
        unfold cntS
        split
        · exact ⟨Nat.zero_le _, Nat.le_refl _⟩
        · split
          · exact ⟨Nat.zero_le _, Nat.le_refl _⟩
          · rename_i h
            exact ⟨by show (Oc.rg (opB G)).2.1 ≤ 10000; omega, h5⟩
      exact ⟨by omega, fun x hx => by have := h2 x hx; omega⟩
    · exact ⟨Nat.zero_le _, fun x hx => by cases hx⟩
  unfold decL
  split
  · exact hA
  · exact ⟨Nat.zero_le _, fun x hx => by cases hx⟩
/-- A store with room for a hundred thousand bytes that is not armed. -/
def VS (u : Int) : S := ⟨false, 0, false, 100000, u⟩
theorem okSnap : rdy false [ksnap] = 0 := by decide
theorem vs_cut (u : Int) (L : List Fi) (z : Nat) (h1 : hasL L klog = true) (h2 : z ≤ (bytL L klog).length) : cutE (VS u) L klog (z : Int) = 0 ∧ cutS (VS u) L klog (z : Int) = VS (u + ((z : Int) - ((bytL L klog).length : Int))) ∧ cutL (VS u) L klog (z : Int) = putL L klog (dv, (bytL L klog).take z) := by
  have e1 : fnd (VS u).d L klog [klog] = 0 := by
    unfold fnd
    rw [show (VS u).d = false from rfl, okLog, if_neg (by decide), h1]
    rfl
  have e2 : ¬ ((z : Int) < 0 ∨ ((bytL L klog).length : Int) < (z : Int)) := by omega
  have e3 : useS (VS u) 1 = VS u := rfl
  have e4 : useN (VS u) 1 = 1 := rfl
  have e5 : cutB (VS u) L klog (z : Int) := ⟨e1, e2⟩
  refine ⟨?_, ?_, ?_⟩
  · unfold cutE
    rw [e1, if_neg (by decide), if_neg e2, e3]; rfl
  · unfold cutS
    rw [if_pos e5, if_pos e4, e3]; rfl
  · unfold cutL
    rw [if_pos e5, if_pos e4]; simp
/-- The store with the files C and G, and vaults over it. -/
def TS (w W : World) (p : Nat) (C G : List Int) (rs : List Re) (nx : Nat) (pk : List (List Int)) (vs : List Nat) (xv : Value) (xl : List Int) : Prop :=
  ∃ u mb L, StR W p (VS u) mb L ∧ u ≤ 3000 ∧ bytL L klog = C ∧ hasL L klog = true ∧ bytL L ksnap = G ∧ (∀ i, own p mb L i → w.heap.size ≤ i) ∧ (∀ vb ∈ vs, ∃ Z j t sv xs A m c, VaX W Z p vb (VS u) mb L j t true nx sv xs rs A m c pk pk.length true) ∧ Below w.heap.size w W ∧ BAt W xv xl ∧ BK (fun k => ¬ own p mb L k) xv xl
section
variable {w W W' : World} {p nx : Nat} {C G : List Int} {rs : List Re} {pk : List (List Int)} {vs : List Nat} {xv : Value} {xl : List Int}
theorem TS.bel (h : TS w W p C G rs nx pk vs xv xl) : Below w.heap.size w W := by
  obtain ⟨_, _, _, _, _, _, _, _, _, _, h8, _⟩ := h
  exact h8
theorem TS.below (h : TS w W p C G rs nx pk vs xv xl) (hb : Below W.heap.size W W') : TS w W' p C G rs nx pk vs xv xl := by
  obtain ⟨u, mb, L, h1, h2, h3, h4, h5, h6, h7, h8, hx, hxk⟩ := h
  exact ⟨u, mb, L, h1.below hb, h2, h3, h4, h5, h6, fun vb hv => by
    obtain ⟨Z, j, t, sv, xs, A, m, c, h9⟩ := h7 vb hv
    exact ⟨Z, j, t, sv, xs, A, m, c, h9.below hb⟩, h8.trans (hb.mono h8.size), hx.kept hb, hxk⟩
theorem TS.x (h : TS w W p C G rs nx pk vs xv xl) : BAt W xv xl := by
  obtain ⟨u, mb, L, h1, h2, h3, h4, h5, h6, h7, h8, hx, hxk⟩ := h
  exact hx
theorem ts_put {mb : Option Nat} {L : List Fi} {u : Int} {m c : Nat} {A : Option Addr} {B : List Int} (k : ByteArray) (h : StR W p (VS u) mb L) (hr : rdy false [k] = 0) (hk : bytL L k = []) (hu : u ≤ 2000) (ho : ∀ i, own p mb L i → w.heap.size ≤ i) (hw : Below w.heap.size w W) (hB : BAt w (.slice A m c) B) (hm : m ≤ 600) :
    Calls Tryz.prog 23 #[.pointer (some ⟨p, 0, none⟩), .string k, .slice A m c] W fun e W' => e = .returned (.int .i64 0) ∧ ∃ u2 mb2 v2, StR W' p (VS u2) mb2 (putL L k (v2, B)) ∧ u2 = u + m ∧ (∀ i, own p mb2 (putL L k (v2, B)) i → w.heap.size ≤ i) ∧ Below w.heap.size w W' := by
  have hl := hB.len.1
  refine (write_put W p (VS u) mb L k A m c B m h hr (by rw [hk]; simp [VS]; omega) (by omega) hl (by simp [useN, VS]; omega) (fun w' hof => hB.kept (hw.trans (hof.below ho hw.size)))).mono ?_
  rintro e W' ⟨rfl, mb', v', hmv⟩
  have e1 : B.take m = B := by rw [← hl, List.take_length]
  rw [e1] at hmv
  refine ⟨rfl, _, mb', v', hmv.st, ?_, fun i hi => ?_, hw.trans (hmv.off.below ho hw.size)⟩
  · rw [hk]; simp [VS]
  · rcases hmv.new i hi with h3 | h3
    · exact ho i h3
    · exact Nat.le_trans hw.size h3
/-- The store with the file C alone. -/
def TW (w W : World) (p : Nat) (C : List Int) : Prop :=
  ∃ u mb L, StR W p (VS u) mb L ∧ u ≤ 600 ∧ bytL L klog = C ∧ hasL L klog = true ∧ bytL L ksnap = [] ∧ (∀ i, own p mb L i → w.heap.size ≤ i) ∧ Below w.heap.size w W
theorem ts_write1 {m c : Nat} {A : Option Addr} {B : List Int} (h : StR W p (VS 0) none []) (hp : w.heap.size ≤ p) (hw : Below w.heap.size w W) (hB : BAt w (.slice A m c) B) (hm : m ≤ 600) :
    Calls Tryz.prog 23 #[.pointer (some ⟨p, 0, none⟩), .string klog, .slice A m c] W fun e W' => e = .returned (.int .i64 0) ∧ TW w W' p B := by
  refine (ts_put klog h okLog rfl (by decide) (fun i hi => by rw [own_nil hi]; exact hp) hw hB hm).mono ?_
  rintro e W' ⟨rfl, u2, mb2, v2, h1, h2, h3, h4⟩
  exact ⟨rfl, u2, mb2, _, h1, by omega, by rw [byt_put, if_pos rfl], by rw [has_put, if_pos rfl], by rw [byt_put, if_neg (by decide)]; rfl, h3, h4⟩
theorem ts_write2 {m c : Nat} {A : Option Addr} {B : List Int} (h : TW w W p C) (hB : BAt w (.slice A m c) B) (hm : m ≤ 600) :
    Calls Tryz.prog 23 #[.pointer (some ⟨p, 0, none⟩), .string ksnap, .slice A m c] W fun e W' => e = .returned (.int .i64 0) ∧ ∀ rs nx pk, TS w W' p C B rs nx pk [] (.slice none 0 0) [] := by
  obtain ⟨u, mb, L, h1, h2, h3, h4, h5, h6, h8⟩ := h
  refine (ts_put ksnap h1 okSnap h5 (by omega) h6 h8 hB hm).mono ?_
  rintro e W' ⟨rfl, u2, mb2, v2, k1, k2, k3, k4⟩
  exact ⟨rfl, fun rs nx pk => ⟨u2, mb2, _, k1, by omega, by rw [byt_put, if_neg (by decide)]; exact h3, by rw [has_put, if_neg (by decide)]; exact h4, by rw [byt_put, if_pos rfl], k3, fun vb hv => (List.not_mem_nil hv).elim, k4, ⟨none, 0, rfl, Nat.le_refl _, fun h => absurd h (Nat.lt_irrefl 0)⟩, fun h => absurd h (Nat.lt_irrefl 0)⟩⟩
/-- A vault is opened. -/
theorem ts_open (h : TS w W p C G rs nx pk vs xv xl) (hb : bok C) (hm : C.length ≤ 600) (hg : bok G) (hrs : recs (cnt C) = rs) (hnx : (if rs = [] then pk.length else nxt (cnt C)) = nx) (hpk : decL G = pk) :
    Calls Tryz.prog 9 #[.pointer (some ⟨p, 0, none⟩)] W fun e W' =>
      (joE rs (nxt (cnt C)) pk.length = 0 ∧ ∃ vb, e = .returned (.tuple #[.pointer (some ⟨vb, 0, none⟩), .int .i64 0]) ∧ TS w W' p (C.take (whole (cnt C))) G rs nx pk (vb :: vs) xv xl) ∨
      (joE rs (nxt (cnt C)) pk.length = 8 ∧ e = .returned (.tuple #[.pointer none, .int .i64 8]) ∧ TS w W' p (C.take (whole (cnt C))) G rs nx pk vs xv xl) := by
  obtain ⟨u, mb, L, h1, h2, h3, h4, h5, h6, h7, h8, hx, hxk⟩ := h
  have hz := whole_len C
  obtain ⟨c1, c2, c3⟩ := vs_cut u L (whole (cnt C)) h4 (by rw [h3]; exact hz)
  have ho := open_ok h1 rfl (by rw [h3]; omega) (by rw [h3]; exact hb) (by rw [h3]; exact fun _ => c1)
  rw [h3] at ho c2 c3
  rw [hrs] at ho
  obtain ⟨s2, hs2⟩ : ∃ s2, s2 = (if whole (cnt C) < C.length then cutS (VS u) L klog (whole (cnt C) : Int) else VS u) := ⟨_, rfl⟩
  obtain ⟨L2, hL2⟩ : ∃ L2, L2 = (if whole (cnt C) < C.length then cutL (VS u) L klog (whole (cnt C) : Int) else L) := ⟨_, rfl⟩
  rw [← hs2, ← hL2] at ho
  obtain ⟨u2, hu2, hu3⟩ : ∃ u2, s2 = VS u2 ∧ u2 ≤ 3000 := by
    rw [hs2]
    split
    · exact ⟨_, c2, by omega⟩
    · exact ⟨_, rfl, h2⟩
  have k1 : bytL L2 klog = C.take (whole (cnt C)) := by
    rw [hL2]
    split
    · rw [c3, byt_put, if_pos rfl]
    · rw [h3, List.take_of_length_le (by omega)]
  have k2 : bytL L2 ksnap = G := by
    rw [hL2]
    split
    · rw [c3, byt_put, if_neg (by decide)]; exact h5
    · exact h5
  have k3 : hasL L2 klog = true := by
    rw [hL2]
    split
    · rw [c3, has_put, if_pos rfl]
    · exact h4
  subst hu2
  refine (vopen_any (pk := pk) ho (by rw [k2]; exact hg) (by rw [k2]; exact hpk) (by rw [← hpk]; exact (decL_10 G).1)).mono ?_
  rintro e W' ⟨hoff, hcs⟩
  have hW : Below w.heap.size w W' := h8.trans (hoff.below h6 h8.size)
  have hvs : ∀ mb' L', StR W' p (VS u2) mb' L' → (∀ i, own p mb' L' i → own p mb L i ∨ W.heap.size ≤ i) → ∀ vb ∈ vs, ∃ Z j t sv xs A m c, VaX W' Z p vb (VS u2) mb' L' j t true nx sv xs rs A m c pk pk.length true := fun mb' L' hst hn vb hv => by
    obtain ⟨Z, j, t, sv, xs, A, m, c, h9⟩ := h7 vb hv
    exact ⟨_, j, t, sv, xs, A, m, c, h9.store ⟨hst, hoff, hn⟩⟩
  have hx2 := bat_step hx hoff hxk
  have hxn : ∀ mb' L', (∀ i, own p mb' L' i → own p mb L i ∨ W.heap.size ≤ i) → BK (fun k => ¬ own p mb' L' k) xv xl := fun mb' L' hn hp a n c ha ho' => (hn _ ho').elim (hxk hp a n c ha) (fun h => by have := bk_lt hx hp a n c ha; omega)
  have hlo : ∀ mb' L', (∀ i, own p mb' L' i → own p mb L i ∨ W.heap.size ≤ i) → ∀ i, own p mb' L' i → w.heap.size ≤ i := fun mb' L' hn i hi => (hn i hi).elim (h6 i) (fun h => Nat.le_trans h8.size h)
  rcases hcs with ⟨hj, Z, vb, j, t, sv, xs, mb', L', A, m, c, rfl, hv, hal, hz2⟩ | ⟨hj, mb', L', rfl, hst, hal, hn⟩
  · have hn : ∀ i, own p mb' L' i → own p mb L i ∨ W.heap.size ≤ i := fun i hi => hz2 i (hv.zo i (.inl hi))
    rw [hnx] at hv
    refine .inl ⟨hj, vb, rfl, u2, mb', L', hv.js.st, hu3, (hal klog).2.trans k1, (hal klog).1.trans k3, (hal ksnap).2.trans k2, hlo mb' L' hn, fun vb' hv' => ?_, hW, hx2, hxn mb' L' hn⟩
    rcases List.mem_cons.1 hv' with rfl | hv'
    · exact ⟨Z, j, t, sv, xs, A, m, c, hv⟩
    · exact hvs mb' L' hv.js.st hn vb' hv'
  · exact .inr ⟨hj, rfl, u2, mb', L', hst, hu3, (hal klog).2.trans k1, (hal klog).1.trans k3, (hal ksnap).2.trans k2, hlo mb' L' hn, hvs mb' L' hst hn, hW, hx2, hxn mb' L' hn⟩
theorem ts_read (h : TS w W p C G rs nx pk vs xv xl) : Calls Tryz.prog 25 #[.pointer (some ⟨p, 0, none⟩), .string klog] W fun e W' => ∃ A n c q, e = .returned (.tuple #[.slice A n c, .bool q]) ∧ BAt W' (.slice A n c) C ∧ Below W.heap.size W W' := by
  obtain ⟨u, mb, L, h1, h2, h3, h4, h5, h6, h7, h8, hx, hxk⟩ := h
  refine (read_any W p _ mb L klog h1).mono ?_
  rintro e W' ⟨A, n, c, rfl, hn, ho, hb⟩
  refine ⟨A, n, c, _, rfl, ?_, hb⟩
  rw [h3] at ho
  exact BAt.of_own ho
/-- What was read is kept. -/
theorem ts_readX (h : TS w W p C G rs nx pk vs xv xl) : Calls Tryz.prog 25 #[.pointer (some ⟨p, 0, none⟩), .string klog] W fun e W' => ∃ A n c q, e = .returned (.tuple #[.slice A n c, .bool q]) ∧ TS w W' p C G rs nx pk vs (.slice A n c) C := by
  obtain ⟨u, mb, L, h1, h2, h3, h4, h5, h6, h7, h8, hx, hxk⟩ := h
  refine (read_any W p _ mb L klog h1).mono ?_
  rintro e W' ⟨A, n, c, rfl, hn, ho, hb⟩
  rw [h3] at ho
  refine ⟨A, n, c, _, rfl, u, mb, L, h1.below hb, h2, h3, h4, h5, h6, fun vb hv => ?_, h8.trans (hb.mono h8.size), BAt.of_own ho, fun hp a n' c' ha hk => ?_⟩
  · obtain ⟨Z, j, t, sv, xs, A, m, c, h9⟩ := h7 vb hv
    exact ⟨Z, j, t, sv, xs, A, m, c, h9.below hb⟩
  · have h10 := own_lt h1 hk
    rcases ho.2 with ⟨e, _⟩ | ⟨g, cap, cur, e, hg, _⟩
    · rw [e] at ha; cases ha
    · rw [e] at ha
      cases ha
      have h10 : g < W.heap.size := h10
      omega
theorem ts_readS (h : TS w W p C G rs nx pk vs xv xl) : Calls Tryz.prog 25 #[.pointer (some ⟨p, 0, none⟩), .string ksnap] W fun e W' => ∃ A n c q, e = .returned (.tuple #[.slice A n c, .bool q]) ∧ BAt W' (.slice A n c) G ∧ Below W.heap.size W W' := by
  obtain ⟨u, mb, L, h1, h2, h3, h4, h5, h6, h7, h8, hx, hxk⟩ := h
  refine (read_any W p _ mb L ksnap h1).mono ?_
  rintro e W' ⟨A, n, c, rfl, hn, ho, hb⟩
  refine ⟨A, n, c, _, rfl, ?_, hb⟩
  rw [h5] at ho
  exact BAt.of_own ho
theorem ts_open0 {C' : List Int} (h : TS w W p C G rs nx pk vs xv xl) (hb : bok C) (hm : C.length ≤ 600) (hg : bok G) (hrs : recs (cnt C) = rs) (hnx : (if rs = [] then pk.length else nxt (cnt C)) = nx) (hpk : decL G = pk) (hj : joE rs (nxt (cnt C)) pk.length = 0) (hC : C.take (whole (cnt C)) = C') :
    Calls Tryz.prog 9 #[.pointer (some ⟨p, 0, none⟩)] W fun e W' => ∃ vb, e = .returned (.tuple #[.pointer (some ⟨vb, 0, none⟩), .int .i64 0]) ∧ TS w W' p C' G rs nx pk (vb :: vs) xv xl := by
  refine (ts_open h hb hm hg hrs hnx hpk).mono ?_
  rintro e W' (⟨_, h2⟩ | ⟨h8, _⟩)
  · rw [hC] at h2; exact h2
  · rw [hj] at h8; exact absurd h8 (by decide)
theorem ts_open8 {C' : List Int} (h : TS w W p C G rs nx pk vs xv xl) (hb : bok C) (hm : C.length ≤ 600) (hg : bok G) (hrs : recs (cnt C) = rs) (hnx : (if rs = [] then pk.length else nxt (cnt C)) = nx) (hpk : decL G = pk) (hj : joE rs (nxt (cnt C)) pk.length = 8) (hC : C.take (whole (cnt C)) = C') :
    Calls Tryz.prog 9 #[.pointer (some ⟨p, 0, none⟩)] W fun e W' => e = .returned (.tuple #[.pointer none, .int .i64 8]) ∧ TS w W' p C' G rs nx pk vs xv xl := by
  refine (ts_open h hb hm hg hrs hnx hpk).mono ?_
  rintro e W' (⟨h8, _⟩ | ⟨_, h2⟩)
  · rw [hj] at h8; exact absurd h8 (by decide)
  · rw [hC] at h2; exact h2
/-- What a vault has. -/
def vlsL (rs : List Re) (pk : List (List Int)) : List (List Int) := pk ++ (rs.drop (keyR rs (pk.length : Int))).map (·.2)
theorem ts_all {vb : Nat} (h : TS w W p C G rs nx pk vs xv xl) (hv : vb ∈ vs) (hr : (∀ r ∈ rs, r.2.length ≤ 600) ∧ rs.length ≤ 600) (hp : pk.length ≤ 10000 ∧ ∀ x ∈ pk, x.length ≤ 2000000) :
    Calls Tryz.prog 16 #[.pointer (some ⟨vb, 0, none⟩)] W fun e W' => ∃ A n c, e = .returned (.slice A n c) ∧ Sp.RowsA W' (.slice A n c) (vlsL rs pk) ∧ Below W.heap.size W W' := by
  obtain ⟨u, mb, L, h1, h2, h3, h4, h5, h6, h7, h8, hx, hxk⟩ := h
  obtain ⟨Z, j, t, sv, xs, A, m, c, h9⟩ := h7 vb hv
  have hk := pl_vals h9.js.jr.vals (pk.length : Int)
  refine (vall_any h9 (fun r hr' => by have := hr.1 r hr'; omega) hp.2 hp.1 rfl (by rw [List.length_map, List.length_drop]; omega)).mono ?_
  rintro e W' ⟨v, rfl, hro, hb⟩
  rw [hk] at hro
  obtain ⟨A, n, c, rfl⟩ := rowsO_eq hro
  exact ⟨A, n, c, rfl, (rowsO_toT (T' := fun _ => False) hro (fun _ h => h.elim)).toA, hb⟩
theorem ts_len {vb : Nat} (h : TS w W p C G rs nx pk vs xv xl) (hv : vb ∈ vs) : Calls Tryz.prog 20 #[.pointer (some ⟨vb, 0, none⟩)] W fun e W' => e = .returned (.int .i64 (nx : Int)) ∧ W = W' := by
  obtain ⟨u, mb, L, h1, h2, h3, h4, h5, h6, h7, h8, hx, hxk⟩ := h
  obtain ⟨Z, j, t, sv, xs, A, m, c, h9⟩ := h7 vb hv
  exact vlen_any h9
theorem vls_bnd (hr : (∀ r ∈ rs, r.2.length ≤ 600) ∧ rs.length ≤ 600) (hp : pk.length ≤ 10000 ∧ ∀ x ∈ pk, x.length ≤ 2000000) : (vlsL rs pk).length ≤ 20000 ∧ ∀ b ∈ vlsL rs pk, b.length ≤ 2000000 := by
  unfold vlsL
  refine ⟨by rw [List.length_append, List.length_map, List.length_drop]; omega, fun b hb => ?_⟩
  rcases List.mem_append.1 hb with hb | hb
  · exact hp.2 b hb
  · obtain ⟨r, h1, rfl⟩ := List.mem_map.1 hb
    have := hr.1 r (List.mem_of_mem_drop h1)
    omega
end
end Go.Proofs.YtjijgoflbjbnfaaGreat.Vt
