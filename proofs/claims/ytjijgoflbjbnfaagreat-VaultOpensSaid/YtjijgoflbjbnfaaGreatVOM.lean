/-
  VaultOpens: what the reference gathers, its contract, what is opened beside it, the law. Conditions: none.
-/
import Derived.Test.YtjijgoflbjbnfaaGreatVTwo1
import Derived.Test.YtjijgoflbjbnfaaGreatJCts
import Derived.Test.YtjijgoflbjbnfaaGreatVM37
import Derived.Test.YtjijgoflbjbnfaaGreatVM31
import Derived.Test.YtjijgoflbjbnfaaGreatVLTwi
namespace Go.Proofs.YtjijgoflbjbnfaaGreat.Vt
open Go.RowKit Fr Sr Jo Sp

theorem sq_frs (k : Nat) : ∀ (p nx : Nat) (l : List Int), 0 < p → Sq nx (recs (cntF nx (Fr.frs k p l))) := by
  induction k with
  | zero => intro p nx l hp; exact trivial
  | succ k ih =>
    intro p nx l hp
    by_cases h : nxE l = 0 ∧ ∃ y, dec (nxB l) = some y ∧ ¬ (0 < p ∧ y.1 ≠ nx)
    · obtain ⟨he, y, hd, hc⟩ := h
      rw [cnt_good he hd hc]
      have hy : y.1 = nx := by omega
      have h5 := (nxN_ok he).1
      have h6 := ih (p + nxN l) (y.1 + 1) (l.drop (nxN l)) (by omega)
      rw [hy] at h6 ⊢
      exact ⟨hy, h6⟩
    · rw [cnt_stop h]
      exact trivial
theorem sq_cnt (B : List Int) : ∃ a, Sq a (recs (cnt B)) := by
  show ∃ a, Sq a (recs (cntF 0 (Fr.frs (B.length + 1) 0 B)))
  by_cases h : nxE B = 0 ∧ ∃ y, dec (nxB B) = some y ∧ ¬ (0 < 0 ∧ y.1 ≠ 0)
  · obtain ⟨he, y, hd, hc⟩ := h
    rw [cnt_good he hd hc]
    have h5 := (nxN_ok he).1
    exact ⟨y.1, rfl, sq_frs B.length (0 + nxN B) (y.1 + 1) (B.drop (nxN B)) (by omega)⟩
  · rw [cnt_stop h]
    exact ⟨0, trivial⟩
def gtR (k : Nat) (rs : List Re) : List Re := rs.filter fun r => decide (k ≤ r.1)
theorem gt_all : ∀ (rs : List Re) (a k : Nat), Sq a rs → k ≤ a → gtR k rs = rs
  | [], _, _, _, _ => rfl
  | r :: rs, a, k, h, hk => by
    unfold gtR
    rw [List.filter_cons, if_pos (by rw [h.1]; simp; omega)]
    exact congrArg (r :: ·) (gt_all rs (a + 1) k h.2 (by omega))
theorem gt_key : ∀ (rs : List Re) (a k : Nat), Sq a rs → gtR k rs = rs.drop (keyR rs (k : Int))
  | [], _, _, _ => rfl
  | r :: rs, a, k, h => by
    have ih := gt_key rs (a + 1) k h.2
    by_cases hk : k ≤ a
    · rw [gt_all (r :: rs) a k h hk]
      unfold keyR
      rw [List.takeWhile_cons, if_neg (by rw [h.1]; simp; omega)]
      rfl
    · unfold gtR keyR at ih ⊢
      rw [List.filter_cons, if_neg (by rw [h.1]; simp; omega), List.takeWhile_cons, if_pos (by rw [h.1]; simp; omega), ih]
      rfl
def gt1 (k : Nat) (pk : List (List Int)) (rs : List Re) (i : Nat) : List (List Int) := pk ++ (gtR k (rs.take i)).map (·.2)
theorem gt1_zero (k : Nat) (pk : List (List Int)) (rs : List Re) : gt1 k pk rs 0 = pk := by simp [gt1, gtR]
theorem gt1_len (k : Nat) (pk : List (List Int)) (rs : List Re) (i : Nat) : (gt1 k pk rs i).length ≤ pk.length + i := by
  unfold gt1 gtR
  rw [List.length_append, List.length_map]
  have h1 := List.length_filter_le (fun r : Re => decide (k ≤ r.1)) (rs.take i)
  have h2 : (rs.take i).length ≤ i := by rw [List.length_take]; omega
  omega
theorem gt1_yes {k : Nat} {pk : List (List Int)} {rs : List Re} {i : Nat} {r : Re} (h : rs[i]? = some r) (hk : k ≤ r.1) : gt1 k pk rs (i + 1) = gt1 k pk rs i ++ [r.2] := by
  obtain ⟨hi, e⟩ := List.getElem?_eq_some_iff.1 h
  unfold gt1 gtR
  rw [List.take_succ_eq_append_getElem hi, e, List.filter_append, List.map_append, ← List.append_assoc]
  simp [hk]
theorem gt1_no {k : Nat} {pk : List (List Int)} {rs : List Re} {i : Nat} {r : Re} (h : rs[i]? = some r) (hk : ¬ k ≤ r.1) : gt1 k pk rs (i + 1) = gt1 k pk rs i := by
  obtain ⟨hi, e⟩ := List.getElem?_eq_some_iff.1 h
  unfold gt1 gtR
  rw [List.take_succ_eq_append_getElem hi, e, List.filter_append]
  simp [hk]
theorem gt1_end {pk : List (List Int)} {B : List Int} : gt1 pk.length pk (recs (cnt B)) (recs (cnt B)).length = vlsL (recs (cnt B)) pk := by
  obtain ⟨a, ha⟩ := sq_cnt B
  unfold gt1 vlsL
  rw [List.take_length, gt_key _ a _ ha]
/-- Slices in a row of one's own, whose bytes lie outside T. -/
def FIT (T : Nat → Prop) (w W : World) (v : Value) (bs : List (List Int)) : Prop :=
  (∃ us : List Value, W.ownsRow w.heap.size 32 1 v bs.length us ∧ ∀ (i : Nat) (u : Value) (l : List Int), us[i]? = some u → bs[i]? = some l → BAt w u l ∧ BK (fun k => ¬ T k) u l) ∧ Below w.heap.size w W
theorem FIT.toT {T : Nat → Prop} {w W : World} {v : Value} {bs : List (List Int)} (h : FIT T w W v bs) (hT : ∀ i, T i → i < w.heap.size) : RowsT T W v bs := by
  obtain ⟨⟨us, h1, h2⟩, hw⟩ := h
  rcases h1.2 with ⟨e, h0⟩ | ⟨g, cap, cur, e, hg, hh, _⟩
  · exact ⟨none, 0, by rw [e, h0], fun hp => by omega⟩
  · refine ⟨_, cap, e, fun hp => ⟨g, 0, rfl, fun ht => by have := hT g ht; omega, (Array.getElem?_eq_some_iff.1 hh).1, fun i l hi => ?_⟩⟩
    have hl : us.length = bs.length := by have := h1.1; omega
    have hi2 : i < us.length := by rw [hl]; exact (List.getElem?_eq_some_iff.1 hi).1
    have hu : us[i]? = some us[i] := List.getElem?_eq_getElem hi2
    refine ⟨us[i], ?_, ((h2 i _ l hu hi).1).kept hw, (h2 i _ l hu hi).2⟩
    have h3 := h1.cells (g := g) (by rw [e]; rfl) i _ hu
    rwa [show (⟨g, 0, none⟩ : Addr).add i = ⟨g, 0 + i, none⟩ from by unfold Addr.add; split <;> simp_all] at h3
/-- Nothing takes all that another has. -/
theorem app_nilA {T : Nat → Prop} {W : World} {v : Value} {hs : List (List Int)} (h : RowsT T W v hs) (hn : hs.length ≤ 20000) :
    ∃ A n c w', (Builtin.append_ #[31, 31] 31 #[.slice none 0 0, v]).run Tryz.prog W = .ok (.slice A n c) w' ∧ FIT T W w' (.slice A n c) hs := by
  obtain ⟨i0, hi0, hz0, hz1, hz2⟩ := info_parts Jo.rowsInf
  have hown : W.ownsRow W.heap.size 32 1 (.slice none 0 0) 0 [] := World.ownsRow_nil _ _ _ _
  obtain ⟨A, cap, rfl, hc⟩ := h
  rcases Nat.eq_zero_or_pos hs.length with h0 | hp
  · have hr0 : hs = [] := List.length_eq_zero_iff.1 h0
    subst hr0
    refine ⟨none, 0, 0, W, ?_, ⟨[], hown, fun i u l hu => by simp at hu⟩, Below.refl _ _⟩
    cases A <;> simp [Builtin.append_, run_underlying Tryz.underlying31, sizeOf, typeInfo, hi0, Builtin.lenOf, Builtin.firstCells] <;> try rfl
  · obtain ⟨g, o, rfl, _, hg, hat⟩ := hc hp
    obtain ⟨us, hus⟩ : ∃ us : List Value, us = (List.range hs.length).map (fun i => (W.cell? ⟨g, o + i, none⟩).getD (.bool false)) := ⟨_, rfl⟩
    have hul : us.length = hs.length := by rw [hus]; simp
    have hget : ∀ (i : Nat) (u : Value), us[i]? = some u → ∃ l, hs[i]? = some l ∧ W.cell? ⟨g, o + i, none⟩ = some u ∧ BAt W u l ∧ BK (fun k => ¬ T k) u l := fun i u hu => by
      have hi : i < hs.length := by rw [← hul]; exact (List.getElem?_eq_some_iff.1 hu).1
      have hl : hs[i]? = some hs[i] := List.getElem?_eq_getElem hi
      obtain ⟨x, hx1, hx2⟩ := hat i _ hl
      rw [hus, List.getElem?_map, List.getElem?_range hi] at hu
      simp only [Option.map_some, Option.some.injEq] at hu
      rw [hx1] at hu
      have hu : x = u := hu
      subst hu
      exact ⟨_, hl, hx1, hx2⟩
    obtain ⟨v', w', hr, ho, hgr, _, hat2⟩ := run_append_own_at (P := Tryz.prog) W W.heap.size 31 31 32 i0 _ 1 24 Tryz.underlying31 hi0 hz0 hz1 hz2 rfl (by decide) _ 0 [] hown ⟨g, o, none⟩ hs.length cap us (by omega) (fun j u hj => by
      obtain ⟨l, _, h2, _⟩ := hget j u hj
      rwa [show (⟨g, o, none⟩ : Addr).add j = ⟨g, o + j, none⟩ from by unfold Addr.add; split <;> simp_all]) (fun u hu => by
      obtain ⟨j, hj, e⟩ := List.mem_iff_getElem.1 hu
      obtain ⟨l, _, _, ⟨_, _, e2, _⟩, _⟩ := hget j u (by rw [List.getElem?_eq_getElem hj, e])
      rw [e2]; rfl) (by unfold maxLen; omega) (by omega) (Nat.le_refl _)
    obtain ⟨A, m, c, rfl⟩ : ∃ A n c, v' = .slice A n c := by
      rcases ho.2 with ⟨h7, _⟩ | ⟨g, cap, cur, h7, _⟩
      · exact ⟨none, 0, 0, h7⟩
      · exact ⟨_, _, _, h7⟩
    rw [List.nil_append, Nat.zero_add] at ho
    refine ⟨A, m, c, w', hr, ⟨us, ho, fun i u l hu hl => ?_⟩, (Below.refl _ _).grown hgr (Nat.le_refl _) (fun i e => by cases e)⟩
    obtain ⟨l2, h3, _, h4⟩ := hget i u hu
    rw [h3] at hl
    cases hl
    exact h4
/-- One more behind it. -/
theorem fi_app2 {T : Nat → Prop} {w W : World} {v u : Value} {bs : List (List Int)} {l : List Int} (h : FIT T w W v bs) (hu : BAt w u l ∧ BK (fun k => ¬ T k) u l) (hn : bs.length ≤ 20000) :
    ∃ A n c W5, (Builtin.append_ #[31, 31] 31 #[v, .slice (some ⟨W.heap.size, 0, none⟩) 1 1]).run Tryz.prog (W.alloc (.cells #[u] 32)) = .ok (.slice A n c) W5 ∧ FIT T w W5 (.slice A n c) (bs ++ [l]) := by
  obtain ⟨⟨us, h1, h2⟩, hw⟩ := h
  have hal := alloc_below W (.cells #[u] 32)
  have own3 : (W.alloc (.cells #[u] 32)).ownsRow w.heap.size 32 1 v bs.length us := Oc.ownsRow_kept h1 (fun g hg => hal.block g (h1.lt g hg).2)
  have hu1 : u.oneCell' = true := by obtain ⟨⟨_, _, e, _⟩, _⟩ := hu; rw [e]; rfl
  obtain ⟨v', W5, hr, ho, hg5, _⟩ := Jo.app_row (u := u) own3 (by omega) (by have := hw.size; have := hal.size; omega) (block_new W _) hu1
  obtain ⟨A, m, c, rfl⟩ : ∃ A n c, v' = .slice A n c := by
    rcases ho.2 with ⟨h7, _⟩ | ⟨g, cap, cur, h7, _⟩
    · exact ⟨none, 0, 0, h7⟩
    · exact ⟨_, _, _, h7⟩
  refine ⟨A, m, c, W5, hr, ⟨us ++ [u], by rw [List.length_append]; exact ho, fun i x y hx hy => ?_⟩, (hw.trans (hal.mono hw.size)).grown hg5 (by have := hw.size; have := hal.size; omega) (fun k hk => (h1.lt k hk).1)⟩
  have hul : us.length = bs.length := by have := h1.1; omega
  rw [List.getElem?_append] at hx hy
  split at hx
  · rename_i hi
    rw [if_pos (by omega)] at hy
    exact h2 i x y hx hy
  · rename_i hi
    rw [if_neg (by omega)] at hy
    have e3 : i - us.length = 0 := by
      have := (List.getElem?_eq_some_iff.1 hx).1
      simp at this; omega
    rw [e3] at hx
    rw [← hul, e3] at hy
    simp at hx hy
    subst hx hy
    exact hu
/-- Records that were told: record i. -/
theorem recB_at {w0 w W : World} {v : Value} {rs : List Re} (h : RecB w0 w W v rs) {i : Nat} {r : Re} (hi : rs[i]? = some r) : ∃ g cap A n c, v = .slice (some ⟨g, 0, none⟩) rs.length cap ∧ W.cell? ⟨g, i * 2, none⟩ = some (.int .i64 (r.1 : Int)) ∧ W.cell? ⟨g, i * 2 + 1, none⟩ = some (.slice A n c) ∧ BAt w0 (.slice A n c) r.2 := by
  obtain ⟨us, h1, h2⟩ := h
  have hil : i < rs.length := (List.getElem?_eq_some_iff.1 hi).1
  obtain ⟨u, e1, e2, e3⟩ := h2 i r hi
  rcases h1.2 with ⟨e, h0⟩ | ⟨g, cap, cur, e, hg, hh, _⟩
  · omega
  · obtain ⟨A, q, e4, _⟩ := e3
    subst e4
    have c0 := h1.cells (g := g) (by rw [e]; rfl) _ _ e1
    have c1 := h1.cells (g := g) (by rw [e]; rfl) _ _ e2
    have ea : ∀ j, (⟨g, 0, none⟩ : Addr).add j = ⟨g, j, none⟩ := fun j => by unfold Addr.add; split <;> simp_all
    rw [ea] at c0 c1
    exact ⟨g, cap, A, r.2.length, q, e, c0, c1, by obtain ⟨u, e1, e2, e3⟩ := h2 i r hi; simp_all⟩
end Go.Proofs.YtjijgoflbjbnfaaGreat.Vt
namespace Go.Proofs.YtjijgoflbjbnfaaGreat.Vt
open Go.RowKit Fr Sr Jo
attribute [local go_sem] Oper.semAt_some

/-- What is told. -/
def RcE (T : Nat → Prop) (J : Int) (W W' : World) (e : Ending) (ls : List (List Int)) : Prop := ∃ A n c, e = .returned (.tuple #[.slice A n c, .int .i64 J]) ∧ (J = 0 → n = ls.length ∧ RowsT T W' (.slice A n c) ls) ∧ Below W.heap.size W W'
theorem fst_cons (rs : List Re) (nx : Nat) (r : Re) (h : rs[0]? = some r) : fstR rs nx = r.1 := by
  cases rs with
  | nil => cases h
  | cons x t => cases h; rfl
theorem nxt_last (B : List Int) (r : Re) (n : Nat) (hn : (recs (cnt B)).length = n + 1) (h : (recs (cnt B))[n]? = some r) : nxt (cnt B) = r.1 + 1 := by
  unfold nxt
  unfold recs at hn h
  rw [List.length_map] at hn
  rw [List.getElem?_map] at h
  rw [List.getLast?_eq_getElem?, hn, Nat.add_sub_cancel]
  cases hc : (cnt B)[n]? with
  | none => rw [hc] at h; cases h
  | some x => rw [hc] at h; cases h; rfl
theorem wrap_sub1 {n i : Nat} (h : n = i + 1) (hn : n ≤ 600) : IntKind.i64.wrap ((n : Int) - 1) = (i : Int) := by rw [IntKind.wrap_i64]; omega
theorem wrap_add1 {x z : Nat} (h : z = x + 1) (hx : x ≤ 4611686018427387903) : IntKind.i64.wrap ((x : Int) + 1) = (z : Int) := by rw [IntKind.wrap_i64]; omega
theorem fi_n {T : Nat → Prop} {w W : World} {A : Option Addr} {n c : Nat} {bs : List (List Int)} (h : FIT T w W (.slice A n c) bs) : n = bs.length := by
  obtain ⟨⟨us, h1, _⟩, _⟩ := h
  rcases h1.2 with ⟨e, h0⟩ | ⟨g, cap, cur, e, _⟩
  · cases e; exact h0.symm
  · cases e; rfl
set_option maxRecDepth 100000 in
set_option maxHeartbeats 8000000 in
theorem records_any (w0 W : World) (h0 : Below w0.heap.size w0 W) {A0 : Option Addr} {q0 c0 : Nat} {G : List Int} (hG : BAt w0 (.slice A0 q0 c0) G) (bG : bok G) (mG : q0 ≤ 600) (is : Bool) {A1 : Option Addr} {q1 c1 : Nat} {B : List Int} (hB : BAt w0 (.slice A1 q1 c1) B) (bB : bok B) (mB : q1 ≤ 600) {pk : List (List Int)} (hpk : (if is then Sp.decL G else []) = pk) {J : Int} (hJ : joE (recs (cnt B)) (nxt (cnt B)) pk.length = J) :
    Calls Tryz.prog 24 #[.slice A0 q0 c0, .bool is, .slice A1 q1 c1] W fun e W' => RcE (fun i => w0.heap.size ≤ i ∧ i < W.heap.size) J W W' e (vlsL (recs (cnt B)) pk) := by
  obtain ⟨T, hT⟩ : ∃ T : Nat → Prop, T = fun i => w0.heap.size ≤ i ∧ i < W.heap.size := ⟨_, rfl⟩
  rw [← hT]
  have hT1 : ∀ i, W.heap.size ≤ i → ¬ T i := fun i hi ht => by rw [hT] at ht; exact absurd ht.2 (by omega)
  have hT2 : ∀ i, i < w0.heap.size → ¬ T i := fun i hi ht => by rw [hT] at ht; exact absurd ht.1 (by omega)
  have HTT : Hid ((∀ i, W.heap.size ≤ i → ¬ T i) ∧ (∀ i, i < w0.heap.size → ¬ T i) ∧ ∀ i, T i → i < W.heap.size) := Lib.hid ⟨hT1, hT2, fun i ht => by rw [hT] at ht; exact ht.2⟩
  have hlB := hB.len.1
  have hlG := hG.len.1
  obtain ⟨rs, hrs⟩ : ∃ rs, rs = recs (cnt B) := ⟨_, rfl⟩
  have hrl : rs.length ≤ 600 := by rw [hrs]; have := (recs_bnd B).2; omega
  have hrk : ∀ r ∈ rs, r.1 ≤ 4611686018427387903 := fun r hr => by
    rw [hrs] at hr
    obtain ⟨x, hx, rfl⟩ := List.mem_map.1 hr
    obtain ⟨l, _, _, h2⟩ := cnt_from B hx
    exact dec_le h2
  have hpl : pk.length ≤ 10000 := by
    rw [← hpk]
    split
    · exact (decL_10 G).1
    · exact Nat.zero_le _
  have HDC : Hid (is = true → Calls Tryz.prog 46 #[.slice A0 q0 c0] W fun e w' => ∃ A c d, e = .returned (.tuple #[.slice A (Sp.decL G).length c, .int .i64 d]) ∧ (d = Sp.decE G) ∧ RowsT T w' (.slice A (Sp.decL G).length c) (Sp.decL G) ∧ Below W.heap.size W w') := Lib.hid (fun _ => by
    refine (Sp.rdecode_any W A0 q0 c0 G (hG.kept h0) bG (by omega)).mono ?_
    rintro e w' ⟨⟨A, n, c, rfl, hr⟩, hb⟩
    obtain ⟨A', cap, e2, h3⟩ := hr
    cases e2
    exact ⟨A, c, _, rfl, rfl, ⟨A, c, rfl, fun hp => by
      obtain ⟨g, o, e3, h4, h5, h6⟩ := h3 hp
      exact ⟨g, o, e3, hT1 g h4, h5, fun i b hi => by
        obtain ⟨u, k1, k2, k3⟩ := h6 i b hi
        exact ⟨u, k1, k2, fun hp a n c e => hT1 _ (k3 hp a n c e)⟩⟩⟩, hb⟩)
  have HCT : Hid (∀ W2, Below W.heap.size W W2 → Calls Tryz.prog 47 #[.slice A1 q1 c1] W2 fun e w' => ∃ A c z, e = .returned (.tuple #[.slice A rs.length c, .int .i64 z]) ∧ RecB w0 W2 w' (.slice A rs.length c) rs ∧ Below W2.heap.size W2 w') := Lib.hid (fun W2 hb2 => by
    refine (rcounts_any w0 W2 (h0.trans (hb2.mono h0.size)) A1 q1 c1 B hB bB mB).mono ?_
    rintro e w' ⟨⟨A, n, c, rfl, hr⟩, hb⟩
    rw [← hrs] at hr
    have hn : n = rs.length := by
      obtain ⟨us, h1, _⟩ := hr
      rcases h1.2 with ⟨e, h0⟩ | ⟨g, cap, cur, e, _⟩
      · cases e; exact h0.symm
      · cases e; rfl
    subst hn
    exact ⟨A, c, _, rfl, hr, hb⟩)
  have hdec : Sp.decE G ≠ 0 → Sp.decL G = [] := fun h => by unfold Sp.decL; rw [if_neg h]
  have HDE := Lib.hid hdec
  have HPK := Lib.hid hpk
  have HPL := Lib.hid hpl
  have HRK := Lib.hid (And.intro hrl hrk)
  have HH0 := Lib.hid h0
  have HJX : Hid ((rs = [] → J = 0 ∧ vlsL (recs (cnt B)) pk = pk) ∧ (∀ r r2 : Re, rs[0]? = some r → rs[rs.length - 1]? = some r2 → ((pk.length < r.1 ∨ r2.1 + 1 < pk.length) → J = 8) ∧ (¬ (pk.length < r.1 ∨ r2.1 + 1 < pk.length) → J = 0))) := Lib.hid (by
    refine ⟨fun h => ?_, fun r r2 h h2 => ?_⟩
    · rw [hrs] at h
      rw [← hJ]
      refine ⟨by unfold joE; rw [if_pos h], ?_⟩
      unfold vlsL
      rw [h]
      simp
    · have hne : rs ≠ [] := fun e => by rw [e] at h; cases h
      have hlen : rs.length = rs.length - 1 + 1 := by
        cases rs with
        | nil => exact absurd rfl hne
        | cons x t => simp
      have e1 : fstR rs (nxt (cnt B)) = r.1 := fst_cons _ _ _ h
      have e2 : nxt (cnt B) = r2.1 + 1 := nxt_last B r2 (rs.length - 1) (by rw [← hrs]; exact hlen) (by rw [← hrs]; exact h2)
      rw [← hJ, ← hrs]
      unfold joE
      rw [if_neg hne, e1, e2]
      exact ⟨fun h => if_pos h, fun h => if_neg h⟩)
  have HEN : Hid (gt1 pk.length pk rs rs.length = vlsL (recs (cnt B)) pk) := Lib.hid (by rw [hrs]; exact gt1_end)
  clear hT hT1 hT2 hlB hlG hG bG mG hB bB mB hrl hrk hpl hpk hJ hrs hdec h0
  go_enter Tryz.func24, Tryz.ntmps24
  go_upto_if 15 with (fail)
  go_cut [8, 9, 10] from 15 to 23 (fun s8 s9 s10 wx => ∃ A c, s8 = .slice A pk.length c ∧ Hid (RowsT T wx (.slice A pk.length c) pk ∧ Below W.heap.size W wx))
  case first =>
    cases is
    · go_wp2
      go_meet
      have h := HPK.out
      simp at h
      subst h
      exact ⟨none, 0, rfl, ⟨none, 0, rfl, fun hp => absurd hp (Nat.lt_irrefl 0)⟩, Below.refl _ _⟩
    · go_upto_region 4 with (go_at_call 46; (with_reducible refine (HDC.out rfl).mono ?_); rintro e w1 ⟨A2, c2, d, rfl, hd, hr, hb⟩; dsimp only; have HD := Lib.hid hd; have HR1 := Lib.hid (And.intro hr hb); clear hd hr hb)
      obtain ⟨nd, hnd⟩ : ∃ nd, nd = (Sp.decL G).length := ⟨_, rfl⟩
      rw [← hnd]
      have HND := Lib.hid hnd
      clear hnd
      have hpk := HPK.out
      simp at hpk
      by_cases hd0 : d = 0
      · subst hd0
        clear hpk
        go_wp2
        go_meet
        have hpk := HPK.out
        simp at hpk
        have := HND.out
        subst this
        exact ⟨A2, c2, by rw [← hpk], by rw [← hpk]; exact HR1.out⟩
      · have hnil : pk = [] := by rw [← hpk]; exact HDE.out (by rw [← HD.out]; exact hd0)
        have HNIL := Lib.hid hnil
        have hdd : (d == 0) = false := by simpa using hd0
        clear hnil hpk
        go_wp2
        go_meet
        exact ⟨none, 0, by rw [HNIL.out]; rfl, by rw [HNIL.out]; exact ⟨none, 0, rfl, fun hp => absurd hp (Nat.lt_irrefl 0)⟩, HR1.out.2⟩
  case rest =>
    obtain ⟨A2, c2, rfl, hor⟩ := hcut
    obtain ⟨k, hk⟩ : ∃ k, k = pk.length := ⟨_, rfl⟩
    obtain ⟨n, hn⟩ : ∃ n, n = rs.length := ⟨_, rfl⟩
    have hct := HCT.out wc hor.out.2
    have hor1 := hor.out.1
    rw [← hk] at hor1 ⊢
    rw [← hn] at hct
    have HC2 := Lib.hid hct
    have HOR := Lib.hid hor1
    have HBW := Lib.hid hor.out.2
    have HKN : Hid (k = pk.length ∧ n = rs.length ∧ k ≤ 10000 ∧ n ≤ 600) := Lib.hid ⟨hk, hn, by rw [hk]; exact HPL.out, by rw [hn]; exact HRK.out.1⟩
    clear hor hct hor1 hk hn HDC HCT HDE HPK
    go_upto_region 7 with (go_at_call 47; (with_reducible refine HC2.out.mono ?_); rintro e w4 ⟨A4, c4, z, rfl, hrb, hb4⟩; dsimp only; have HRB := Lib.hid hrb; have HB4 := Lib.hid (HBW.out.trans (hb4.mono HBW.out.size)); have HOR4 := Lib.hid (HOR.out.step (Off.of_below (fun _ => False) hb4) (fun _ e => e.elim) (fun _ e => .inl e)); clear hrb hb4)
    clear HC2
    by_cases hn0 : n = 0
    · have hj := HJX.out.1 (List.length_eq_zero_iff.1 (HKN.out.2.1.symm.trans hn0))
      have HJ := Lib.hid hj
      clear hj
      subst hn0
      go_wp2
      go_ret2
      exact ⟨A2, k, c2, by rw [HJ.out.1]; rfl, fun _ => by rw [HJ.out.2]; exact ⟨HKN.out.1, HOR4.out⟩, HB4.out⟩
    · obtain ⟨y, hy⟩ : ∃ y, n = y + 1 := ⟨n - 1, by omega⟩
      obtain ⟨r, hr⟩ : ∃ r, rs[0]? = some r := ⟨_, List.getElem?_eq_getElem (by rw [← HKN.out.2.1]; omega)⟩
      obtain ⟨r2, hr2⟩ : ∃ r2, rs[y]? = some r2 := ⟨_, List.getElem?_eq_getElem (by rw [← HKN.out.2.1]; omega)⟩
      have hjx := HJX.out.2 r r2 hr (by rw [← HKN.out.2.1, hy, Nat.add_sub_cancel]; exact hr2)
      rw [← HKN.out.1] at hjx
      obtain ⟨g, cap, Ar, nr, cr, e1, d0, _, _⟩ := recB_at HRB.out hr
      obtain ⟨g', cap', Ar2, nr2, cr2, e2, d1, _, _⟩ := recB_at HRB.out hr2
      rw [e1] at e2
      simp only [Value.slice.injEq, Option.some.injEq, Addr.mk.injEq, and_true, true_and] at e1 e2
      obtain ⟨rfl, hcap⟩ := e2
      obtain ⟨rfl, hnn, hcap2⟩ := e1
      obtain ⟨x, hx⟩ : ∃ x, x = r.1 := ⟨_, rfl⟩
      obtain ⟨x2, hx2⟩ : ∃ x2, x2 = r2.1 := ⟨_, rfl⟩
      obtain ⟨z2, hz2⟩ : ∃ z2, z2 = x2 + 1 := ⟨_, rfl⟩
      rw [← hx, ← hx2, ← hz2] at hjx
      rw [← hx] at d0
      rw [← hx2] at d1
      simp only [Nat.zero_mul] at d0
      have HJ := Lib.hid hjx
      have t1 : ¬ (n : Int) = 0 := by omega
      have t4 : (0 : Int) < (n : Int) := by omega
      have hw1 : IntKind.i64.wrap ((n : Int) - 1) = (y : Int) := wrap_sub1 hy HKN.out.2.2.2
      have hw2 : IntKind.i64.wrap ((x2 : Int) + 1) = (z2 : Int) := wrap_add1 hz2 (by rw [hx2]; exact HRK.out.2 r2 (List.mem_of_getElem? hr2))
      have t2 : (y : Int) < (n : Int) := by omega
      have t3 : (0 : Int) ≤ (y : Int) := by omega
      have HY := Lib.hid hy
      clear hjx hr hr2 hx hx2 hz2 hcap hcap2 hy hn0 hnn
      by_cases hb1 : k < x
      · have s1 : (k : Int) < (x : Int) := by omega
        have H8 := Lib.hid (HJ.out.1 (.inl hb1))
        clear hb1
        go_wp2
        go_ret2
        exact ⟨none, 0, 0, by rw [H8.out]; rfl, fun h => by rw [H8.out] at h; exact absurd h (by decide), HB4.out⟩
      · have s1 : ¬ (k : Int) < (x : Int) := by omega
        by_cases hb2 : z2 < k
        · have s2 : (z2 : Int) < (k : Int) := by omega
          have H8 := Lib.hid (HJ.out.1 (.inr hb2))
          clear hb1 hb2
          go_wp2
          go_ret2
          exact ⟨none, 0, 0, by rw [H8.out]; rfl, fun h => by rw [H8.out] at h; exact absurd h (by decide), HB4.out⟩
        · have s2 : ¬ (z2 : Int) < (k : Int) := by omega
          have H0 := Lib.hid (HJ.out.2 (fun h => h.elim hb1 hb2))
          obtain ⟨A5, n5, c5, w5, hr5, hf5⟩ := app_nilA HOR4.out (by rw [← HKN.out.1]; have := HKN.out.2.2.1; omega)
          have HF5 : Hid (FIT T w4 w5 (.slice A5 n5 c5) (gt1 k pk rs 0)) := Lib.hid (by rw [gt1_zero]; exact hf5)
          clear hf5 hb1 hb2
          go_wp2_with (have hq5 := hr5; refine Lib.wpList_append_run _ rfl _ _ 31 31 rfl (.slice none 0 0) (.slice A2 k c2) rfl rfl (.slice A5 n5 c5) w5 hq5 ?_; clear hr5 hq5)
          go_loopg [13, 14] n (fun (gh : Nat) s13 s14 wx => ∃ (i : Nat) (A : Option Addr) (m c : Nat), gh = n - i ∧ i ≤ n ∧ s13 = .slice A m c ∧ s14 = .int .i64 (i : Int) ∧ Hid (FIT T w4 wx (.slice A m c) (gt1 k pk rs i)))
          case atStart => exact ⟨0, A5, n5, c5, rfl, Nat.zero_le _, rfl, rfl, HF5.out⟩
          case round =>
            obtain ⟨i, A, m, c, rfl, hin, rfl, rfl, hI⟩ := hrel
            by_cases hlt : i < n
            · obtain ⟨r, hr⟩ : ∃ r, rs[i]? = some r := ⟨_, List.getElem?_eq_getElem (by rw [← HKN.out.2.1]; exact hlt)⟩
              obtain ⟨g', cap', Ar, nr, cr, e1, d2, d3, hbr⟩ := recB_at (recB_below HRB.out hI.out.2) hr
              simp only [Value.slice.injEq, Option.some.injEq, Addr.mk.injEq, and_true] at e1
              obtain ⟨rfl, hnn, hcap⟩ := e1
              obtain ⟨x3, hx3⟩ : ∃ x3, x3 = r.1 := ⟨_, rfl⟩
              rw [← hx3] at d2
              have u8 : n ≤ 600 := HKN.out.2.2.2
              have u1 : (i : Int) < (n : Int) := by omega
              have u2 : (0 : Int) ≤ (i : Int) := by omega
              have HLT := Lib.hid hlt
              have HR := Lib.hid (And.intro hr hx3)
              have hb4 : BAt w4 (.slice Ar nr cr) r.2 := hbr.kept (HH0.out.trans (HB4.out.mono HH0.out.size))
              by_cases hk3 : k ≤ x3
              · have u3 : (k : Int) ≤ (x3 : Int) := by omega
                obtain ⟨A6, n6, c6, w6, hr6, hf6⟩ := fi_app2 hI.out ⟨hb4, fun hp a n c e => HTT.out.2.1 _ (bk_lt hbr hp a n c e)⟩ (by have := gt1_len k pk rs i; have := HKN.out; omega)
                rw [← gt1_yes hr (by rw [← hx3]; exact hk3)] at hf6
                have HF6 := Lib.hid hf6
                clear hf6 hb4 hbr hr hx3 hnn hcap hlt hin hI hk3
                go_wp2_with (have hq6 := hr6; refine Lib.wpList_append_run _ rfl _ _ 31 31 rfl (.slice A m c) (.slice (some ⟨wr.heap.size, 0, none⟩) 1 1) rfl rfl (.slice A6 n6 c6) w6 hq6 ?_; clear hr6 hq6)
                go_roundg (n - (i + 1))
                case measure => have := HLT.out; omega
                case rel => exact ⟨i + 1, A6, n6, c6, rfl, HLT.out, rfl, by have := HKN.out; go_num, HF6.out⟩
              · have u3 : ¬ (k : Int) ≤ (x3 : Int) := by omega
                have HF6 : Hid (FIT T w4 wr (.slice A m c) (gt1 k pk rs (i + 1))) := Lib.hid (by rw [gt1_no hr (by rw [← hx3]; exact hk3)]; exact hI.out)
                clear hb4 hbr hr hx3 hnn hcap hlt hin hI hk3
                go_wp2
                go_roundg (n - (i + 1))
                case measure => have := HLT.out; omega
                case rel => exact ⟨i + 1, A, m, c, rfl, HLT.out, rfl, by have := HKN.out; go_num, HF6.out⟩
            · obtain rfl : i = n := by omega
              have hf := hI.out
              rw [show gt1 k pk rs i = vlsL (recs (cnt B)) pk by rw [← HEN.out, HKN.out.1, HKN.out.2.1]] at hf
              have HF := Lib.hid hf
              have u1 : ¬ (i : Int) < (i : Int) := by omega
              clear hI hf hlt hin
              go_wp2
              go_ret2
              exact ⟨A, m, c, by rw [H0.out]; rfl, fun _ => ⟨fi_n HF.out, HF.out.toT (fun i ht => Nat.lt_of_lt_of_le (HTT.out.2.2 i ht) HB4.out.size)⟩, HB4.out.trans (HF.out.2.mono HB4.out.size)⟩
end Go.Proofs.YtjijgoflbjbnfaaGreat.Vt
namespace Go.Proofs.YtjijgoflbjbnfaaGreat.Vt
open Go.RowKit Fr Sr Jo Sp

/-- The store with the files C and G, and rows elsewhere. -/
def TQ (w W : World) (p : Nat) (C G : List Int) (rv : Value) (rl : List (List Int)) : Prop :=
  ∃ u mb L, StR W p (VS u) mb L ∧ u ≤ 3000 ∧ bytL L klog = C ∧ hasL L klog = true ∧ bytL L ksnap = G ∧ (∀ i, own p mb L i → w.heap.size ≤ i) ∧ RowsT (own p mb L) W rv rl ∧ Below w.heap.size w W
section
variable {w W W' : World} {p nx : Nat} {C G : List Int} {rs : List Re} {pk : List (List Int)} {vs : List Nat} {xv : Value} {xl : List Int}
theorem rowsT_mono {T T' : Nat → Prop} {v : Value} {bs : List (List Int)} (h : RowsT T W v bs) (hT : ∀ i, T' i → T i) : RowsT T' W v bs := h.step (Off.refl (fun _ => False) W) (fun _ e => e.elim) (fun i e => .inl (hT i e))
theorem tw_ts (h : TW w W p C) : TS w W p C [] rs nx pk [] (.slice none 0 0) [] := by
  obtain ⟨u, mb, L, h1, h2, h3, h4, h5, h6, h8⟩ := h
  exact ⟨u, mb, L, h1, by omega, h3, h4, h5, h6, fun vb hv => (List.not_mem_nil hv).elim, h8, ⟨none, 0, rfl, Nat.le_refl _, fun h => absurd h (Nat.lt_irrefl 0)⟩, fun h => absurd h (Nat.lt_irrefl 0)⟩
theorem ts_tq {rv : Value} {rl : List (List Int)} (h : TS w W p C G rs nx pk vs xv xl) (hb : Below W.heap.size W W') (hr : RowsT (fun i => w.heap.size ≤ i ∧ i < W.heap.size) W' rv rl) : TQ w W' p C G rv rl := by
  obtain ⟨u, mb, L, h1, h2, h3, h4, h5, h6, h7, h8, _⟩ := h
  exact ⟨u, mb, L, h1.below hb, h2, h3, h4, h5, h6, rowsT_mono hr (fun i hi => ⟨h6 i hi, own_lt h1 hi⟩), h8.trans (hb.mono h8.size)⟩
/-- A vault is opened beside rows that lie elsewhere. -/
theorem tq_open {rv : Value} {rl : List (List Int)} (h : TQ w W p C G rv rl) (hb : bok C) (hm : C.length ≤ 600) (hg : bok G) (hrs : recs (cnt C) = rs) (hnx : (if rs = [] then pk.length else nxt (cnt C)) = nx) (hpk : decL G = pk) :
    Calls Tryz.prog 9 #[.pointer (some ⟨p, 0, none⟩)] W fun e W' =>
      (joE rs (nxt (cnt C)) pk.length = 0 ∧ ∃ vb, e = .returned (.tuple #[.pointer (some ⟨vb, 0, none⟩), .int .i64 0]) ∧ TS w W' p (C.take (whole (cnt C))) G rs nx pk [vb] (.slice none 0 0) [] ∧ Sp.RowsA W' rv rl) ∨ joE rs (nxt (cnt C)) pk.length = 8 := by
  obtain ⟨u, mb, L, h1, h2, h3, h4, h5, h6, hrow, h8⟩ := h
  have hz := whole_len C
  obtain ⟨c1, c2, c3⟩ := vs_cut u L (whole (cnt C)) h4 (by rw [h3]; exact hz)
  have ho := open_ok h1 rfl (by rw [h3]; omega) (by rw [h3]; exact hb) (by rw [h3]; exact fun _ => c1)
  rw [h3] at ho c2 c3
  rw [hrs] at ho
  obtain ⟨s2, hs2⟩ : ∃ s2, s2 = (if whole (cnt C) < C.length then cutS (VS u) L klog (whole (cnt C) : Int) else VS u) := ⟨_, rfl⟩
  obtain ⟨L2, hL2⟩ : ∃ L2, L2 = (if whole (cnt C) < C.length then cutL (VS u) L klog (whole (cnt C) : Int) else L) := ⟨_, rfl⟩
  rw [← hs2, ← hL2] at ho
  obtain ⟨u2, hu2, hu3⟩ : ∃ u2, s2 = VS u2 ∧ u2 ≤ 3000 := by
    rw [hs2]
    split
    · exact ⟨_, c2, by omega⟩
    · exact ⟨_, rfl, h2⟩
  have k1 : bytL L2 klog = C.take (whole (cnt C)) := by
    rw [hL2]
    split
    · rw [c3, byt_put, if_pos rfl]
    · rw [h3, List.take_of_length_le (by omega)]
  have k2 : bytL L2 ksnap = G := by
    rw [hL2]
    split
    · rw [c3, byt_put, if_neg (by decide)]; exact h5
    · exact h5
  have k3 : hasL L2 klog = true := by
    rw [hL2]
    split
    · rw [c3, has_put, if_pos rfl]
    · exact h4
  subst hu2
  refine (vopen_any (pk := pk) ho (by rw [k2]; exact hg) (by rw [k2]; exact hpk) (by rw [← hpk]; exact (decL_10 G).1)).mono ?_
  rintro e W' ⟨hoff, hcs⟩
  have hW : Below w.heap.size w W' := h8.trans (hoff.below h6 h8.size)
  have hlo : ∀ mb' L', (∀ i, own p mb' L' i → own p mb L i ∨ W.heap.size ≤ i) → ∀ i, own p mb' L' i → w.heap.size ≤ i := fun mb' L' hn i hi => (hn i hi).elim (h6 i) (fun h => Nat.le_trans h8.size h)
  rcases hcs with ⟨hj, Z, vb, j, t, sv, xs, mb', L', A, m, c, rfl, hv, hal, hz2⟩ | ⟨hj, mb', L', rfl, hst, hal, hn⟩
  · have hn : ∀ i, own p mb' L' i → own p mb L i ∨ W.heap.size ≤ i := fun i hi => hz2 i (hv.zo i (.inl hi))
    rw [hnx] at hv
    refine .inl ⟨hj, vb, rfl, ⟨u2, mb', L', hv.js.st, hu3, (hal klog).2.trans k1, (hal klog).1.trans k3, (hal ksnap).2.trans k2, hlo mb' L' hn, fun vb' hv' => ?_, hW, ⟨none, 0, rfl, Nat.le_refl _, fun h => absurd h (Nat.lt_irrefl 0)⟩, fun h => absurd h (Nat.lt_irrefl 0)⟩, (hrow.step (T' := fun _ => False) hoff (fun _ e => e) (fun _ e => e.elim)).toA⟩
    rcases List.mem_cons.1 hv' with rfl | hv'
    · exact ⟨Z, j, t, sv, xs, A, m, c, hv⟩
    · exact (List.not_mem_nil hv').elim
  · exact .inr hj
theorem tq_open0 {C' : List Int} {rv : Value} {rl : List (List Int)} (h : TQ w W p C G rv rl) (hb : bok C) (hm : C.length ≤ 600) (hg : bok G) (hrs : recs (cnt C) = rs) (hnx : (if rs = [] then pk.length else nxt (cnt C)) = nx) (hpk : decL G = pk) (hj : joE rs (nxt (cnt C)) pk.length = 0) (hC : C.take (whole (cnt C)) = C') :
    Calls Tryz.prog 9 #[.pointer (some ⟨p, 0, none⟩)] W fun e W' => ∃ vb, e = .returned (.tuple #[.pointer (some ⟨vb, 0, none⟩), .int .i64 0]) ∧ TS w W' p C' G rs nx pk [vb] (.slice none 0 0) [] ∧ Sp.RowsA W' rv rl := by
  refine (tq_open h hb hm hg hrs hnx hpk).mono ?_
  rintro e W' (⟨_, h2⟩ | h8)
  · rw [hC] at h2; exact h2
  · rw [hj] at h8; exact absurd h8 (by decide)
theorem ts_sound {vb : Nat} (h : TS w W p C G rs nx pk vs xv xl) (hv : vb ∈ vs) : Calls Tryz.prog 19 #[.pointer (some ⟨vb, 0, none⟩)] W fun e W' => e = .returned (.bool true) ∧ W = W' := by
  obtain ⟨u, mb, L, h1, h2, h3, h4, h5, h6, h7, h8, hx, hxk⟩ := h
  obtain ⟨Z, j, t, sv, xs, A, m, c, h9⟩ := h7 vb hv
  exact vsound_any h9
theorem decL_nil : decL [] = [] := by unfold decL; rw [if_neg (by decide +kernel)]
theorem sq_at2 : ∀ (rs : List Re) (a i : Nat) (r : Re), Sq a rs → rs[i]? = some r → r.1 = a + i
  | [], _, _, _, _, hi => by cases hi
  | x :: t, a, 0, r, h, hi => by
    cases hi
    exact h.1
  | x :: t, a, i + 1, r, h, hi => by
    have h2 := sq_at2 t (a + 1) i r h.2 hi
    omega
/-- How many there are. -/
theorem vls_len (B : List Int) (pk : List (List Int)) (hj : joE (recs (cnt B)) (nxt (cnt B)) pk.length = 0) : (vlsL (recs (cnt B)) pk).length = if recs (cnt B) = [] then pk.length else nxt (cnt B) := by
  unfold vlsL
  rw [List.length_append, List.length_map, List.length_drop]
  by_cases he : recs (cnt B) = []
  · rw [if_pos he, he]; simp
  · rw [if_neg he]
    obtain ⟨a, ha⟩ := sq_cnt B
    unfold joE at hj
    rw [if_neg he] at hj
    have hk := sq_key (recs (cnt B)) a pk.length ha
    have hbad : ¬ (pk.length < fstR (recs (cnt B)) (nxt (cnt B)) ∨ nxt (cnt B) < pk.length) := fun h => by rw [if_pos h] at hj; exact absurd hj (by decide)
    have hf : fstR (recs (cnt B)) (nxt (cnt B)) = a := by
      cases hrs : recs (cnt B) with
      | nil => exact absurd hrs he
      | cons r t => rw [hrs] at ha; exact ha.1
    have hl : nxt (cnt B) = a + (recs (cnt B)).length := by
      obtain ⟨n, hn⟩ : ∃ n, (recs (cnt B)).length = n + 1 := ⟨(recs (cnt B)).length - 1, by have := List.length_pos_iff.2 he; omega⟩
      obtain ⟨r, hr⟩ : ∃ r, (recs (cnt B))[n]? = some r := ⟨_, List.getElem?_eq_getElem (by omega)⟩
      have h1 := nxt_last B r n hn hr
      have h2 := sq_at2 _ a n r ha hr
      omega
    rw [hk]
    omega
end
end Go.Proofs.YtjijgoflbjbnfaaGreat.Vt
namespace Go.Proofs.YtjijgoflbjbnfaaGreat.Vt
open Go.RowKit Fr Sr Jo
attribute [local go_sem] Oper.semAt_some

set_option maxRecDepth 100000 in
set_option maxHeartbeats 8000000 in
theorem law_opens (w : World) (A0 : Option Addr) (n0 c0 : Nat) (l0 : List Int) (h0 : BAt w (.slice A0 n0 c0) l0) (b0 : bok l0) (A1 : Option Addr) (n1 c1 : Nat) (l1 : List Int) (h1 : BAt w (.slice A1 n1 c1) l1) (b1 : bok l1) (is : Bool) :
    Calls Tryz.prog 4 #[.slice A0 n0 c0, .slice A1 n1 c1, .bool is] w fun e w' => e = .returned (.bool true) ∧ Below w.heap.size w w' := by
  have hl0 := h0.len
  have hl1 := h1.len
  obtain ⟨q0, hq0⟩ : ∃ q0, q0 = min n0 600 := ⟨_, rfl⟩
  obtain ⟨q1, hq1⟩ : ∃ q1, q1 = min n1 600 := ⟨_, rfl⟩
  have hmin0 : (if (600 : Int) < (n0 : Int) then 600 else (n0 : Int)) = (q0 : Int) := by split <;> omega
  have hmin1 : (if (600 : Int) < (n1 : Int) then 600 else (n1 : Int)) = (q1 : Int) := by split <;> omega
  have hs0 := slice_to A0 n0 c0 q0 (by omega)
  have hs1 := slice_to A1 n1 c1 q1 (by omega)
  obtain ⟨G, hG⟩ : ∃ G, G = l0.take q0 := ⟨_, rfl⟩
  obtain ⟨B, hB⟩ : ∃ B, B = l1.take q1 := ⟨_, rfl⟩
  have HGA : Hid (BAt w (.slice A0 q0 c0) G) := Lib.hid (by rw [hG]; exact (h0.take q0 (by omega)).1)
  have HBA : Hid (BAt w (.slice A1 q1 c1) B) := Lib.hid (by rw [hB]; exact (h1.take q1 (by omega)).1)
  have HGK : Hid (bok G ∧ G.length ≤ 600 ∧ q0 ≤ 600) := Lib.hid ⟨by rw [hG]; exact fun z hz => b0 z (List.mem_of_mem_take hz), by rw [hG, List.length_take]; omega, by omega⟩
  have HBK : Hid (bok B ∧ B.length ≤ 600 ∧ q1 ≤ 600) := Lib.hid ⟨by rw [hB]; exact fun z hz => b1 z (List.mem_of_mem_take hz), by rw [hB, List.length_take]; omega, by omega⟩
  obtain ⟨C, hC⟩ : ∃ C, B.take (whole (cnt B)) = C := ⟨_, rfl⟩
  obtain ⟨rs, hrs⟩ : ∃ rs, recs (cnt B) = rs := ⟨_, rfl⟩
  obtain ⟨nc, hnc⟩ : ∃ nc, nxt (cnt B) = nc := ⟨_, rfl⟩
  obtain ⟨Gx, hGx⟩ : ∃ Gx, (if is then G else []) = Gx := ⟨_, rfl⟩
  obtain ⟨pk, hpk⟩ : ∃ pk, Sp.decL Gx = pk := ⟨_, rfl⟩
  have hpk2 : (if is then Sp.decL G else []) = pk := by rw [← hpk, ← hGx]; cases is <;> simp [decL_nil]
  have HGX : Hid (bok Gx ∧ Gx.length ≤ 600) := Lib.hid (by
    rw [← hGx]
    cases is
    · exact ⟨fun x hx => (List.not_mem_nil hx).elim, Nat.zero_le _⟩
    · exact ⟨HGK.out.1, HGK.out.2.1⟩)
  obtain ⟨nx, hnx⟩ : ∃ nx, (if rs = [] then pk.length else nc) = nx := ⟨_, rfl⟩
  have HRS : Hid ((∀ r ∈ rs, r.2.length ≤ 600) ∧ rs.length ≤ 600) := Lib.hid (by
    have h := recs_bnd B
    rw [hrs] at h
    exact ⟨fun r hr => Nat.le_trans (h.1 r hr) HBK.out.2.1, Nat.le_trans h.2 HBK.out.2.1⟩)
  have HPK : Hid (pk.length ≤ 10000 ∧ ∀ x ∈ pk, x.length ≤ 2000000) := Lib.hid (by
    rw [← hpk]
    exact ⟨(decL_10 Gx).1, fun x hx => by have := (decL_10 Gx).2 x hx; have := HGX.out.2; omega⟩)
  have HVL := Lib.hid (vls_bnd HRS.out HPK.out)
  obtain ⟨p, hp⟩ : ∃ p, w.heap.size = p := ⟨_, rfl⟩
  have HNW := ts_new w w.drew ((Below.refl _ _).drew) rfl
  rw [hp] at HNW
  have HNW := Lib.hid HNW
  have HWR : Hid (∀ W, StR W p (VS 0) none [] → Below p w W → Calls Tryz.prog 23 #[.pointer (some ⟨p, 0, none⟩), .string klog, .slice A1 q1 c1] W fun e W' => e = .returned (.int .i64 0) ∧ TW w W' p B) := Lib.hid (fun W h hb => ts_write1 h (by omega) (by rw [hp]; exact hb) HBA.out HBK.out.2.2)
  have HWS : Hid (∀ W, TW w W p B → Calls Tryz.prog 23 #[.pointer (some ⟨p, 0, none⟩), .string ksnap, .slice A0 q0 c0] W fun e W' => e = .returned (.int .i64 0) ∧ TS w W' p B G rs nx pk [] (.slice none 0 0) []) := Lib.hid (fun W h => (ts_write2 h HGA.out HGK.out.2.2).mono fun e W' ⟨h1, h2⟩ => ⟨h1, h2 rs nx pk⟩)
  have hjs : joE rs nc pk.length = 0 ∨ joE rs nc pk.length = 8 := by
    unfold joE
    split
    · exact .inl rfl
    · split
      · exact .inr rfl
      · exact .inl rfl
  have HSM : Hid (∀ W u v, Sp.RowsA W u (vlsL rs pk) → Sp.RowsA W v (vlsL rs pk) → Calls Tryz.prog 15 #[u, v] W fun e W' => e = .returned (.bool true) ∧ Below W.heap.size W W') := Lib.hid (fun W u v h1 h2 => by
    have h := Sp.rsame_any W u v _ _ h1 h2 HVL.out.1 HVL.out.1 HVL.out.2 HVL.out.2
    rw [decide_eq_true rfl] at h
    exact h)
  rcases hjs with hj | hj
  · have HVN : Hid ((vlsL rs pk).length = nx) := Lib.hid (by
      have h := vls_len B pk (by rw [hrs, hnc]; exact hj)
      rw [hrs, hnc, hnx] at h
      exact h)
    have HRC : Hid (∀ W, TS w W p B Gx rs nx pk [] (.slice none 0 0) [] → Calls Tryz.prog 24 #[.slice A0 q0 c0, .bool is, .slice A1 q1 c1] W fun e W' => ∃ A c, e = .returned (.tuple #[.slice A nx c, .int .i64 0]) ∧ TQ w W' p B Gx (.slice A nx c) (vlsL rs pk)) := Lib.hid (fun W h => by
      refine (records_any w W h.bel HGA.out HGK.out.1 HGK.out.2.2 is HBA.out HBK.out.1 HBK.out.2.2 hpk2 (J := 0) (by rw [hrs, hnc]; exact hj)).mono ?_
      rintro e W' ⟨A, n, c, rfl, hr, hb⟩
      obtain ⟨h1, h2⟩ := hr rfl
      rw [hrs] at h1 h2
      have hn : n = nx := h1.trans HVN.out
      subst hn
      exact ⟨A, c, rfl, ts_tq h hb h2⟩)
    have HO1 : Hid (∀ W rv rl, TQ w W p B Gx rv rl → Calls Tryz.prog 9 #[.pointer (some ⟨p, 0, none⟩)] W fun e W' => ∃ vb, e = .returned (.tuple #[.pointer (some ⟨vb, 0, none⟩), .int .i64 0]) ∧ TS w W' p C Gx rs nx pk [vb] (.slice none 0 0) [] ∧ Sp.RowsA W' rv rl) := Lib.hid (fun W rv rl h => tq_open0 h HBK.out.1 HBK.out.2.1 HGX.out.1 hrs (by rw [hnc]; exact hnx) hpk (by rw [hnc]; exact hj) hC)
    clear h0 b0 h1 b1 hl0 hl1 hq0 hq1 hG hB hC hrs hnc hpk hpk2 hnx hj hp
    cases is
    · simp only [Bool.false_eq_true, if_false] at hGx
      subst hGx
      go_enter Tryz.func4, Tryz.ntmps4
      go_upto_region 1 with fail
      go_cut [0, 1] from 13 to 22 (fun s0 s1 wx => s0 = .slice A0 q0 c0 ∧ s1 = .slice A1 q1 c1 ∧ wx = w.drew)
      case first =>
        go_region_held3 (fun w' => w'.heap.size = w.heap.size)
          (first | rfl)
          (first
            | (refine Sp.step_min _ (by rfl) (.tmp 15) _ _ (n0 : Int) 600 (q0 : Int) (by rfl) (by rfl) hmin0 ?_)
            | (refine Sp.step_min _ (by rfl) (.tmp 20) _ _ (n1 : Int) 600 (q1 : Int) (by rfl) (by rfl) hmin1 ?_))
        all_goals
          go_wp2
          go_meet
          exact ⟨rfl, rfl, rfl⟩
      case rest =>
        obtain ⟨rfl, rfl, rfl⟩ := hcut
        clear hmin0 hmin1 hs0 hs1
        go_wp2_with (first
          | (go_at_call 19; (with_reducible refine (ts_sound HT10.out List.mem_cons_self).mono ?_); rintro e w11 ⟨rfl, hw11⟩; subst hw11; dsimp only)
          | (go_at_call 20; (with_reducible refine (ts_len HT9.out List.mem_cons_self).mono ?_); rintro e w10 ⟨rfl, hw10⟩; subst hw10; dsimp only; have HT10 := Lib.hid HT9.out; clear HT9)
          | (go_at_call 15; (with_reducible refine (HSM.out _ _ _ HA8.out HR8.out).mono ?_); rintro e w9 ⟨rfl, hb9⟩; dsimp only; have HT9 := Lib.hid (HT8.out.below hb9); clear hb9 HT8)
          | (go_at_call 16; (with_reducible refine (ts_all HT7.out List.mem_cons_self HRS.out HPK.out).mono ?_); rintro e w8 ⟨A8, n8, c8, rfl, hr8, hb8⟩; dsimp only; have HA8 := Lib.hid hr8; have HR8 := Lib.hid (HR7.out.below hb8); have HT8 := Lib.hid (HT7.out.below hb8); clear hr8 hb8 HT7)
          | (go_at_call 22; (with_reducible refine (known_any w6).mono ?_); rintro e w7 ⟨rfl, hb7⟩; dsimp only; have HT7 := Lib.hid (HT6.out.below hb7); have HR7 := Lib.hid (HR6.out.below hb7); clear hb7 HT6)
          | (go_at_call 9; (with_reducible refine (HO1.out _ _ _ HQ5.out).mono ?_); rintro e w6 ⟨vb, rfl, ht6, hr6⟩; dsimp only; have HT6 := Lib.hid ht6; have HR6 := Lib.hid hr6; clear ht6 hr6 HQ5)
          | (go_at_call 24; (with_reducible refine (HRC.out _ HT4.out).mono ?_); rintro e w5 ⟨A5, c5, rfl, hq5⟩; dsimp only; have HQ5 := Lib.hid hq5; clear hq5 HT4)
          | (go_at_call 23; (with_reducible refine (HWR.out _ HN2.out.1 HN2.out.2).mono ?_); rintro e w4 ⟨rfl, hw3⟩; dsimp only; have HT4 : Hid (TS w w4 p B [] rs nx pk [] (.slice none 0 0) []) := Lib.hid (tw_ts hw3); clear hw3 HN2)
          | (go_at_call 8; (with_reducible refine HNW.out.mono ?_); rintro e w2 ⟨rfl, hn2, hb2⟩; dsimp only; have HN2 := Lib.hid (And.intro hn2 hb2); clear hn2 hb2))
        go_ret
        exact ⟨rfl, HT10.out.bel⟩
    · simp only [if_true] at hGx
      subst hGx
      go_enter Tryz.func4, Tryz.ntmps4
      go_upto_region 1 with fail
      go_cut [0, 1] from 13 to 22 (fun s0 s1 wx => s0 = .slice A0 q0 c0 ∧ s1 = .slice A1 q1 c1 ∧ wx = w.drew)
      case first =>
        go_region_held3 (fun w' => w'.heap.size = w.heap.size)
          (first | rfl)
          (first
            | (refine Sp.step_min _ (by rfl) (.tmp 15) _ _ (n0 : Int) 600 (q0 : Int) (by rfl) (by rfl) hmin0 ?_)
            | (refine Sp.step_min _ (by rfl) (.tmp 20) _ _ (n1 : Int) 600 (q1 : Int) (by rfl) (by rfl) hmin1 ?_))
        all_goals
          go_wp2
          go_meet
          exact ⟨rfl, rfl, rfl⟩
      case rest =>
        obtain ⟨rfl, rfl, rfl⟩ := hcut
        clear hmin0 hmin1 hs0 hs1
        go_wp2_with (first
          | (go_at_call 19; (with_reducible refine (ts_sound HT10.out List.mem_cons_self).mono ?_); rintro e w11 ⟨rfl, hw11⟩; subst hw11; dsimp only)
          | (go_at_call 20; (with_reducible refine (ts_len HT9.out List.mem_cons_self).mono ?_); rintro e w10 ⟨rfl, hw10⟩; subst hw10; dsimp only; have HT10 := Lib.hid HT9.out; clear HT9)
          | (go_at_call 15; (with_reducible refine (HSM.out _ _ _ HA8.out HR8.out).mono ?_); rintro e w9 ⟨rfl, hb9⟩; dsimp only; have HT9 := Lib.hid (HT8.out.below hb9); clear hb9 HT8)
          | (go_at_call 16; (with_reducible refine (ts_all HT7.out List.mem_cons_self HRS.out HPK.out).mono ?_); rintro e w8 ⟨A8, n8, c8, rfl, hr8, hb8⟩; dsimp only; have HA8 := Lib.hid hr8; have HR8 := Lib.hid (HR7.out.below hb8); have HT8 := Lib.hid (HT7.out.below hb8); clear hr8 hb8 HT7)
          | (go_at_call 22; (with_reducible refine (known_any w6).mono ?_); rintro e w7 ⟨rfl, hb7⟩; dsimp only; have HT7 := Lib.hid (HT6.out.below hb7); have HR7 := Lib.hid (HR6.out.below hb7); clear hb7 HT6)
          | (go_at_call 9; (with_reducible refine (HO1.out _ _ _ HQ5.out).mono ?_); rintro e w6 ⟨vb, rfl, ht6, hr6⟩; dsimp only; have HT6 := Lib.hid ht6; have HR6 := Lib.hid hr6; clear ht6 hr6 HQ5)
          | (go_at_call 24; (with_reducible refine (HRC.out _ HT4.out).mono ?_); rintro e w5 ⟨A5, c5, rfl, hq5⟩; dsimp only; have HQ5 := Lib.hid hq5; clear hq5 HT4)
          | (go_at_call 23; (with_reducible refine (HWS.out _ HW3.out).mono ?_); rintro e w4 ⟨rfl, ht4⟩; dsimp only; have HT4 := Lib.hid ht4; clear ht4 HW3)
          | (go_at_call 23; (with_reducible refine (HWR.out _ HN2.out.1 HN2.out.2).mono ?_); rintro e w3 ⟨rfl, hw3⟩; dsimp only; have HW3 := Lib.hid hw3; clear hw3 HN2)
          | (go_at_call 8; (with_reducible refine HNW.out.mono ?_); rintro e w2 ⟨rfl, hn2, hb2⟩; dsimp only; have HN2 := Lib.hid (And.intro hn2 hb2); clear hn2 hb2))
        go_ret
        exact ⟨rfl, HT10.out.bel⟩
  · have HRC : Hid (∀ W, TS w W p B Gx rs nx pk [] (.slice none 0 0) [] → Calls Tryz.prog 24 #[.slice A0 q0 c0, .bool is, .slice A1 q1 c1] W fun e W' => ∃ A n c, e = .returned (.tuple #[.slice A n c, .int .i64 8]) ∧ TS w W' p B Gx rs nx pk [] (.slice none 0 0) []) := Lib.hid (fun W h => by
      refine (records_any w W h.bel HGA.out HGK.out.1 HGK.out.2.2 is HBA.out HBK.out.1 HBK.out.2.2 hpk2 (J := 8) (by rw [hrs, hnc]; exact hj)).mono ?_
      rintro e W' ⟨A, n, c, rfl, _, hb⟩
      exact ⟨A, n, c, rfl, h.below hb⟩)
    have HO1 : Hid (∀ W, TS w W p B Gx rs nx pk [] (.slice none 0 0) [] → Calls Tryz.prog 9 #[.pointer (some ⟨p, 0, none⟩)] W fun e W' => e = .returned (.tuple #[.pointer none, .int .i64 8]) ∧ TS w W' p C Gx rs nx pk [] (.slice none 0 0) []) := Lib.hid (fun W h => ts_open8 h HBK.out.1 HBK.out.2.1 HGX.out.1 hrs (by rw [hnc]; exact hnx) hpk (by rw [hnc]; exact hj) hC)
    clear h0 b0 h1 b1 hl0 hl1 hq0 hq1 hG hB hC hrs hnc hpk hpk2 hnx hj hp
    cases is
    · simp only [Bool.false_eq_true, if_false] at hGx
      subst hGx
      go_enter Tryz.func4, Tryz.ntmps4
      go_upto_region 1 with fail
      go_cut [0, 1] from 13 to 22 (fun s0 s1 wx => s0 = .slice A0 q0 c0 ∧ s1 = .slice A1 q1 c1 ∧ wx = w.drew)
      case first =>
        go_region_held3 (fun w' => w'.heap.size = w.heap.size)
          (first | rfl)
          (first
            | (refine Sp.step_min _ (by rfl) (.tmp 15) _ _ (n0 : Int) 600 (q0 : Int) (by rfl) (by rfl) hmin0 ?_)
            | (refine Sp.step_min _ (by rfl) (.tmp 20) _ _ (n1 : Int) 600 (q1 : Int) (by rfl) (by rfl) hmin1 ?_))
        all_goals
          go_wp2
          go_meet
          exact ⟨rfl, rfl, rfl⟩
      case rest =>
        obtain ⟨rfl, rfl, rfl⟩ := hcut
        clear hmin0 hmin1 hs0 hs1
        go_wp2_with (first
          | (go_at_call 22; (with_reducible refine (known_any w6).mono ?_); rintro e w7 ⟨rfl, hb7⟩; dsimp only; have HT7 := Lib.hid (HT6.out.below hb7); clear hb7 HT6)
          | (go_at_call 9; (with_reducible refine (HO1.out _ HT5.out).mono ?_); rintro e w6 ⟨rfl, ht6⟩; dsimp only; have HT6 := Lib.hid ht6; clear ht6 HT5)
          | (go_at_call 24; (with_reducible refine (HRC.out _ HT4.out).mono ?_); rintro e w5 ⟨A5, n5, c5, rfl, ht5⟩; dsimp only; have HT5 := Lib.hid ht5; clear ht5 HT4)
          | (go_at_call 23; (with_reducible refine (HWR.out _ HN2.out.1 HN2.out.2).mono ?_); rintro e w4 ⟨rfl, hw3⟩; dsimp only; have HT4 : Hid (TS w w4 p B [] rs nx pk [] (.slice none 0 0) []) := Lib.hid (tw_ts hw3); clear hw3 HN2)
          | (go_at_call 8; (with_reducible refine HNW.out.mono ?_); rintro e w2 ⟨rfl, hn2, hb2⟩; dsimp only; have HN2 := Lib.hid (And.intro hn2 hb2); clear hn2 hb2))
        go_ret
        exact ⟨rfl, HT7.out.bel⟩
    · simp only [if_true] at hGx
      subst hGx
      go_enter Tryz.func4, Tryz.ntmps4
      go_upto_region 1 with fail
      go_cut [0, 1] from 13 to 22 (fun s0 s1 wx => s0 = .slice A0 q0 c0 ∧ s1 = .slice A1 q1 c1 ∧ wx = w.drew)
      case first =>
        go_region_held3 (fun w' => w'.heap.size = w.heap.size)
          (first | rfl)
          (first
            | (refine Sp.step_min _ (by rfl) (.tmp 15) _ _ (n0 : Int) 600 (q0 : Int) (by rfl) (by rfl) hmin0 ?_)
            | (refine Sp.step_min _ (by rfl) (.tmp 20) _ _ (n1 : Int) 600 (q1 : Int) (by rfl) (by rfl) hmin1 ?_))
        all_goals
          go_wp2
          go_meet
          exact ⟨rfl, rfl, rfl⟩
      case rest =>
        obtain ⟨rfl, rfl, rfl⟩ := hcut
        clear hmin0 hmin1 hs0 hs1
        go_wp2_with (first
          | (go_at_call 22; (with_reducible refine (known_any w6).mono ?_); rintro e w7 ⟨rfl, hb7⟩; dsimp only; have HT7 := Lib.hid (HT6.out.below hb7); clear hb7 HT6)
          | (go_at_call 9; (with_reducible refine (HO1.out _ HT5.out).mono ?_); rintro e w6 ⟨rfl, ht6⟩; dsimp only; have HT6 := Lib.hid ht6; clear ht6 HT5)
          | (go_at_call 24; (with_reducible refine (HRC.out _ HT4.out).mono ?_); rintro e w5 ⟨A5, n5, c5, rfl, ht5⟩; dsimp only; have HT5 := Lib.hid ht5; clear ht5 HT4)
          | (go_at_call 23; (with_reducible refine (HWS.out _ HW3.out).mono ?_); rintro e w4 ⟨rfl, ht4⟩; dsimp only; have HT4 := Lib.hid ht4; clear ht4 HW3)
          | (go_at_call 23; (with_reducible refine (HWR.out _ HN2.out.1 HN2.out.2).mono ?_); rintro e w3 ⟨rfl, hw3⟩; dsimp only; have HW3 := Lib.hid hw3; clear hw3 HN2)
          | (go_at_call 8; (with_reducible refine HNW.out.mono ?_); rintro e w2 ⟨rfl, hn2, hb2⟩; dsimp only; have HN2 := Lib.hid (And.intro hn2 hb2); clear hn2 hb2))
        go_ret
        exact ⟨rfl, HT7.out.bel⟩
end Go.Proofs.YtjijgoflbjbnfaaGreat.Vt
