/-
  A nil store's Names. Conditions: none.
-/
import Derived.Test.YtjijgoflbjbnfaaGreatVM15
import Derived.Test.YtjijgoflbjbnfaaGreatIKeys
import Derived.Test.YtjijgoflbjbnfaaGreatVM17
import Derived.Test.YtjijgoflbjbnfaaGreatVM31
import Derived.Test.YtjijgoflbjbnfaaGreatVM32
namespace Go.Proofs.YtjijgoflbjbnfaaGreat.Sr
open Go.RowKit Go.Maps Go.Sort Fr

set_option maxRecDepth 100000 in
set_option maxHeartbeats 1000000 in
theorem nil_names (w : World) : Calls Tryz.prog 41 #[.pointer none] w fun e w' => e = .returned (.slice none 0 0) ∧ Below w.heap.size w w' := by
  have HO := orDown_nil w
  have c5 : (w.alloc (blk nilS none)).cell? ⟨w.heap.size, 5, none⟩ = some (.map none) := (blk_cells (nil_blk w)).1.2.2.2.2.2
  have hl := nil_bel w
  generalize w.alloc (blk nilS none) = W at HO c5 hl
  have HL := Lib.hid hl
  have HO := Lib.hid HO
  have HK := Lib.hid (Tryz.maps_Keys_67 none W)
  have HS := Lib.hid (Tryz.slices_Sorted_keys_nil_66_67 W)
  clear hl
  refine (callsIn_wide (n := 6)).1 ?_
  have hfK : Fence.wide.fn 67 := trivial
  have hfS : Fence.wide.fn 66 := trivial
  have hfO : Fence.wide.fn 35 := trivial
  refine callsIn_of_wp Tryz.func41 rfl trivial ?_ rfl
  simp only [Tryz.ntmps41, List.size_toArray, List.length_cons, List.length_nil, Nat.reduceAdd, Nat.reduceSub, Array.replicate_succ, Array.replicate_zero, List.push_toArray, List.append_toArray, List.nil_append, List.cons_append]
  gi_wp2_with (first
    | (gi_at_call 35; refine (callsIn_wide.2 HO.out).mono ?_; rintro e w' ⟨rfl, rfl⟩)
    | (gi_at_call 67; refine HK.out.mono ?_; rintro e w' ⟨rfl, rfl⟩)
    | (gi_at_call 66; refine HS.out.mono ?_; rintro e w2 ⟨v, ss, rfl, hS, hrow, hnil, hb⟩))
  go_ret
  exact ⟨by rw [hnil.2 hS]; rfl, HL.out.trans (((Below.refl _ _).alloc HL.out.size _).trans (hb.mono (by have := HL.out.size; simp; omega)))⟩
end Go.Proofs.YtjijgoflbjbnfaaGreat.Sr

namespace Go.Proofs.YtjijgoflbjbnfaaGreat.Sr
open Go.RowKit Go.Maps Go.Sort Fr
open Go.WideElems (Fit rd rg rd_mk rg_of)

/-- Texts in memory. -/
def SRd (w : World) (A : Option Addr) (L : List ByteArray) : Prop := L = [] ∨ ∃ g o, A = some ⟨g, o, none⟩ ∧ g < w.heap.size ∧ ∀ i s, L[i]? = some s → w.cell? ⟨g, o + i, none⟩ = some (.string s)
theorem SRd.below {w w' : World} {A : Option Addr} {L : List ByteArray} (h : SRd w A L) (hb : Below w.heap.size w w') : SRd w' A L :=
  h.imp id fun ⟨g, o, e, hg, hc⟩ => ⟨g, o, e, Nat.lt_of_lt_of_le hg hb.size, fun i s hi => (hb.cell (p := ⟨g, o + i, none⟩) hg).trans (hc i s hi)⟩
theorem own_strs {w : World} {base : Nat} {v : Value} {L : List ByteArray} (h : w.ownsRow base 9 1 v L.length (sv L)) : ∃ A cap, v = .slice A L.length cap ∧ SRd w A L := by
  rcases h.2 with ⟨rfl, h0⟩ | ⟨g, cap, cur, rfl, _, hh, _, _, hs, ht⟩
  · obtain rfl : L = [] := List.length_eq_zero_iff.1 h0
    exact ⟨none, 0, rfl, .inl rfl⟩
  · refine ⟨_, cap, rfl, .inr ⟨g, 0, rfl, (Array.getElem?_eq_some_iff.1 hh).1, fun i s hi => ?_⟩⟩
    have hlt : i < L.length := (List.getElem?_eq_some_iff.1 hi).1
    have hc : (sv L)[i]? = some (.string s) := by unfold sv; rw [List.getElem?_map, hi]; rfl
    rw [← ht, List.getElem?_take, if_pos (by omega)] at hc
    rw [Nat.zero_add, cell_of_row _ g i _ _ _ hh]
    simpa using hc
/-- The names, rising. -/
def keyB (L : List Fi) : List (List UInt8) := L.map fun x => x.1.data.toList
def nmL (L : List Fi) : List ByteArray := ((keyB L).mergeSort leB).map fun l => ⟨l.toArray⟩
theorem keyB_mem {L : List Fi} {l : List UInt8} : l ∈ keyB L ↔ hasL L ⟨l.toArray⟩ = true := by
  rw [has_mem]
  unfold keyB
  rw [List.mem_map]
  constructor
  · rintro ⟨x, hx, rfl⟩; exact ⟨x, hx, by simp⟩
  · rintro ⟨x, hx, e⟩; exact ⟨x, hx, by rw [e]⟩
theorem keyB_nodup {L : List Fi} (h : KeysL L) : (keyB L).Nodup := by
  unfold keyB
  refine List.pairwise_map.2 (h.imp fun {x y} hne e => hne ?_)
  have : x.1.data = y.1.data := Array.toList_inj.1 e
  cases hx : x.1; cases hy : y.1
  rw [hx, hy] at this
  exact congrArg _ this
theorem keyB_perm {L L' : List Fi} (h : KeysL L) (h' : KeysL L') (ha : Alike L L') : (keyB L).Perm (keyB L') :=
  (List.perm_ext_iff_of_nodup (keyB_nodup h) (keyB_nodup h')).2 fun l => by rw [keyB_mem, keyB_mem, (ha _).1]
theorem nmL_alike {L L' : List Fi} (h : KeysL L) (h' : KeysL L') (ha : Alike L L') : nmL L = nmL L' := by
  unfold nmL; rw [mergeSort_of_perm (keyB_perm h h' ha)]
theorem len_alike {L L' : List Fi} (h : KeysL L) (h' : KeysL L') (ha : Alike L L') : L.length = L'.length := by
  have := (keyB_perm h h' ha).length_eq
  simpa [keyB] using this
theorem nmL_len (L : List Fi) : (nmL L).length = L.length := by
  unfold nmL keyB
  rw [List.length_map, (List.mergeSort_perm _ _).length_eq, List.length_map]
theorem nmL_has {L : List Fi} {k : ByteArray} (h : k ∈ nmL L) : hasL L k = true := by
  unfold nmL at h
  obtain ⟨l, hl, rfl⟩ := List.mem_map.1 h
  exact keyB_mem.1 ((List.mergeSort_perm _ _).mem_iff.1 hl)

/-- How a file's bytes read is not asked. -/
def RU : Value → Option (DataW Unit × List MemPlace) := fun _ => some (.nil, [])
theorem map_owns {w : World} {b : Nat} {L : List Fi} (h : MapR w b L) (hl : L.length ≤ 1000) (hk : ∀ x ∈ L, x.1.size ≤ 12) :
    ∃ D, w.ownsMap Tryz.prog 9 RU b 1000 D ∧ (strKeys D).Perm (keyB L) ∧ Maps.size D ≤ 1000 := by
  obtain ⟨es, clock, hb, hs, he⟩ := h
  have hlen : es.size = L.length := by
    have := congrArg List.length he
    simpa [ents, rows] using this
  have hrd : ∀ x ∈ es.toList, ∃ y ∈ L, x.key = .string y.1 ∧ rd Tryz.prog 9 RU x = some (.string y.1.data.toList, .nil) := fun x hx => by
    have : (x.key, x.val) ∈ ents es.toList := List.mem_map.2 ⟨x, hx, rfl⟩
    rw [he] at this
    obtain ⟨y, hy, e⟩ := List.mem_map.1 this
    have e1 : Value.string y.1 = x.key := congrArg Prod.fst e
    refine ⟨y, hy, e1.symm, ?_⟩
    have h12 := hk y hy
    obtain ⟨xk, xv, xb⟩ := x
    cases e1
    exact rd_mk (Go.WideMaps.keyOf_string_mk strT (by unfold maxLen; omega)) (rfl : RU xv = some (.nil, []))
  have hF : Fit Tryz.prog 9 RU es clock := ⟨by unfold maxLen; omega, hs, fun x hx => by obtain ⟨y, _, _, h2⟩ := hrd x hx; exact ⟨_, h2⟩⟩
  have hmap : ∀ (l : List MapEntry) (L : List Fi), ents l = rows L → (∀ x ∈ l, ∃ y : Fi, x.key = .string y.1 ∧ rd Tryz.prog 9 RU x = some (.string y.1.data.toList, .nil)) → (l.map (rg Tryz.prog 9 RU)).map (fun p => Go.strOf p.1) = keyB L := by
    intro l
    induction l with
    | nil =>
      intro L h _
      cases L with
      | nil => rfl
      | cons x r => simp [ents, rows] at h
    | cons x l ih =>
      intro L h h2
      cases L with
      | nil => simp [ents, rows] at h
      | cons y r =>
        simp only [ents, rows, List.map_cons, List.cons.injEq, Prod.mk.injEq] at h
        obtain ⟨⟨h3, _⟩, h5⟩ := h
        obtain ⟨z, h6, h7⟩ := h2 x List.mem_cons_self
        have hz : z.1 = y.1 := by rw [h3] at h6; exact (Value.string.inj h6).symm
        simp only [List.map_cons, keyB, rg_of h7, Go.strOf, hz]
        have h8 := ih r h5 fun x hx => h2 x (List.mem_cons_of_mem _ hx)
        exact congrArg (List.cons y.1.data.toList) h8
  refine ⟨_, ⟨es, clock, hb, hF, by omega, rfl⟩, ?_, ?_⟩
  · show (((es.toList.map (rg Tryz.prog 9 RU)).foldr DataW.insert []).map fun p => Go.strOf p.1).Perm (keyB L)
    rw [← hmap es.toList L he fun x hx => by obtain ⟨y, _, h1, h2⟩ := hrd x hx; exact ⟨y, h1, h2⟩]
    exact (Go.WideShapes.sorted_perm _).map _
  · show ((es.toList.map (rg Tryz.prog 9 RU)).foldr DataW.insert []).length ≤ 1000
    rw [(Go.WideShapes.sorted_perm _).length_eq, List.length_map, Array.length_toList]
    omega

/-- What Names leaves. -/
def NmTo (w w' : World) (L : List Fi) (e : Ending) : Prop := ∃ A c, e = .returned (.slice A (nmL L).length c) ∧ SRd w' A (nmL L) ∧ Below w.heap.size w w'
set_option maxRecDepth 100000 in
set_option maxHeartbeats 1000000 in
theorem names_any {w : World} {p : Nat} {s : S} {mb : Option Nat} {L : List Fi} (h : StR w p s mb L) (hl : L.length ≤ 1000) (hk : ∀ x ∈ L, x.1.size ≤ 12) :
    Calls Tryz.prog 41 #[.pointer (some ⟨p, 0, none⟩)] w fun e w' => NmTo w w' L e := by
  have HO := Lib.hid (orDown_own w p)
  have c5 := (blk_cells h.blk).1.2.2.2.2.2
  cases mb with
  | none =>
    cases (show L = [] from h.map)
    have HK := Lib.hid (Tryz.maps_Keys_67 none w)
    have HS := Lib.hid (Tryz.slices_Sorted_keys_nil_66_67 w)
    clear h hl hk
    refine (callsIn_wide (n := 6)).1 ?_
    have hfK : Fence.wide.fn 67 := trivial
    have hfS : Fence.wide.fn 66 := trivial
    have hfO : Fence.wide.fn 35 := trivial
    refine callsIn_of_wp Tryz.func41 rfl trivial ?_ rfl
    simp only [Tryz.ntmps41, List.size_toArray, List.length_cons, List.length_nil, Nat.reduceAdd, Nat.reduceSub, Array.replicate_succ, Array.replicate_zero, List.push_toArray, List.append_toArray, List.nil_append, List.cons_append]
    gi_wp2_with (first
      | (gi_at_call 35; refine (callsIn_wide.2 HO.out).mono ?_; rintro e w' ⟨rfl, rfl⟩)
      | (gi_at_call 67; refine HK.out.mono ?_; rintro e w' ⟨rfl, rfl⟩)
      | (gi_at_call 66; refine HS.out.mono ?_; rintro e w2 ⟨v, ss, rfl, hS, hrow, hnil, hb⟩))
    go_ret
    have hN : nmL [] = [] := by simp [nmL, keyB]
    refine ⟨none, 0, by rw [hN, hnil.2 hS]; rfl, .inl hN, ((Below.refl _ _).alloc (Nat.le_refl _) _).trans (hb.mono (by simp))⟩
  | some b =>
    obtain ⟨D, hown, hperm, hsz⟩ := map_owns h.map hl hk
    have HK := Lib.hid (Tryz.maps_Keys_67 (some b) w)
    have HS := Lib.hid (Tryz.slices_Sorted_keys_66_67 b 1000 D RU w hown (by unfold maxLen; omega) (by omega))
    have HP := Lib.hid hperm
    clear h hl hk hown hperm hsz
    refine (callsIn_wide (n := 6)).1 ?_
    have hfK : Fence.wide.fn 67 := trivial
    have hfS : Fence.wide.fn 66 := trivial
    have hfO : Fence.wide.fn 35 := trivial
    refine callsIn_of_wp Tryz.func41 rfl trivial ?_ rfl
    simp only [Tryz.ntmps41, List.size_toArray, List.length_cons, List.length_nil, Nat.reduceAdd, Nat.reduceSub, Array.replicate_succ, Array.replicate_zero, List.push_toArray, List.append_toArray, List.nil_append, List.cons_append]
    gi_wp2_with (first
      | (gi_at_call 35; refine (callsIn_wide.2 HO.out).mono ?_; rintro e w' ⟨rfl, rfl⟩)
      | (gi_at_call 67; refine HK.out.mono ?_; rintro e w' ⟨rfl, rfl⟩)
      | (gi_at_call 66; refine HS.out.mono ?_; rintro e w2 ⟨v, ss, rfl, hS, hrow, hnil, hb⟩))
    go_ret
    have hmm : ss.mergeSort (fun x y => decide (x ≤ y)) = (keyB L).mergeSort leB := mergeSort_of_perm (hS.trans HP.out)
    rw [hmm] at hrow
    have hlen : ss.length = (nmL L).length := by
      rw [nmL_len, (hS.trans HP.out).length_eq]; simp [keyB]
    have hsv : ((keyB L).mergeSort leB).map encStr = sv (nmL L) := by
      unfold sv nmL
      rw [List.map_map]; rfl
    rw [hlen, hsv] at hrow
    obtain ⟨A, c, rfl, hrd⟩ := own_strs hrow
    exact ⟨A, c, rfl, hrd, ((Below.refl _ _).alloc (Nat.le_refl _) _).trans (hb.mono (by simp))⟩
end Go.Proofs.YtjijgoflbjbnfaaGreat.Sr

namespace Go.Proofs.YtjijgoflbjbnfaaGreat.Vt
open Go.RowKit Fr Sr Jo
section
variable {w W : World} {Z : Nat → Prop} {p vb lg q : Nat} {s : S} {R : Int} {ls : List (List Int)} {sd : Bool} {im : Bool × Nat}
theorem vv_sf (h : VV W Z p vb s R ls sd lg im) : SF W Z p s R ls lg im ∧ (sd = true → s.d = false) := by
  obtain ⟨mb, L, j, t, jn, nx, sv, xs, rs, A, m, c, pk, hv, hi, hf, hR, hlg, hsd, hnm, hq⟩ := h
  exact ⟨⟨mb, L, rs, pk, nx, hv.js.st, fun k hk => hv.zo k (.inl hk), hi, hf, hR, hlg, hv.zl, hnm, hq⟩, fun h => (hsd h).2.1⟩
theorem vv_names (h : VV W Z p vb s R ls true lg (true, q)) (h0 : 0 < q) (h1 : q < ls.length) : Calls Tryz.prog 41 #[.pointer (some ⟨p, 0, none⟩)] W fun e W' => ∃ A c, e = .returned (.slice A 2 c) ∧ Below W.heap.size W W' := by
  obtain ⟨mb, L, j, t, jn, nx, sv, xs, rs, A, m, c, pk, hv, hi, hf, hR, hlg, hsd, hnm, hq⟩ := h
  obtain ⟨_, _, hc⟩ := hsd rfl
  have hq : pk.length = q := hq
  have hlen := hi.len
  have hkl : hasL L klog = true := by
    refine hc.2 ?_
    rw [hc.1]
    obtain ⟨a, _, h2, _⟩ := hi.sq
    cases rs with
    | nil => have := (hi.join 0).1 rfl; omega
    | cons r rs =>
      have : (Jo.frs (r :: rs)).flatten = recF r.1 r.2 ++ (Jo.frs rs).flatten := by simp [Jo.frs]
      rw [this, List.length_append, recF_len]; omega
  have hks : hasL L ksnap = true := by
    cases hh : hasL L ksnap with
    | true => rfl
    | false =>
      have h2 := hf.dec
      rw [byt_none hh] at h2
      have h3 : Sp.decL [] = [] := by decide
      rw [h3] at h2
      rw [← h2] at hq
      simp at hq; omega
  have hks2 : KeysL [(klog, dv, bytL L klog), (ksnap, dv, bytL L ksnap)] := by
    refine List.pairwise_cons.2 ⟨fun x hx => ?_, List.pairwise_singleton _ _⟩
    simp at hx
    subst hx
    exact klog_snap
  have hal : Sr.Alike [(klog, dv, bytL L klog), (ksnap, dv, bytL L ksnap)] L := fun k => by
    by_cases k1 : klog = k
    · subst k1
      exact ⟨by rw [hkl]; simp [hasL], by simp [bytL]⟩
    · by_cases k2 : ksnap = k
      · subst k2
        exact ⟨by rw [hks]; simp [hasL], by simp [bytL, k1]⟩
      · have h3 := hnm rfl k k1 k2
        refine ⟨by rw [h3]; simp [hasL, k1, k2], ?_⟩
        rw [byt_none h3]; simp [bytL, k1, k2]
  have hll := len_alike hks2 hv.js.st.keys hal
  have h2 : L.length = 2 := hll.symm
  have hsz : ∀ x ∈ L, x.1.size ≤ 12 := fun x hx => by
    have h4 : hasL L x.1 = true := has_mem.2 ⟨x, hx, rfl⟩
    by_cases k1 : klog = x.1
    · rw [← k1]; decide
    · by_cases k2 : ksnap = x.1
      · rw [← k2]; decide
      · rw [hnm rfl _ k1 k2] at h4; cases h4
  refine (names_any hv.js.st (by omega) hsz).mono ?_
  rintro e W' ⟨A', c', rfl, _, hb⟩
  rw [nmL_len, h2]
  exact ⟨A', c', rfl, hb⟩
/-- A vault in the fixed question. -/
def KQ (w W : World) (p vb : Nat) (ls : List (List Int)) (im : Bool × Nat) (U g : Nat) : Prop := ∃ Z s lg, VV W Z p vb s 1000 ls true lg im ∧ lg ≤ g ∧ s.a = false ∧ s.used ≤ U ∧ (∀ k, Z k → w.heap.size ≤ k) ∧ Below w.heap.size w W
variable {U g : Nat}
theorem KQ.bel (h : KQ w W p vb ls im U g) : Below w.heap.size w W := by
  obtain ⟨_, _, _, _, _, _, _, _, hb⟩ := h
  exact hb
theorem KQ.below {W' : World} (h : KQ w W p vb ls im U g) (hb : Below W.heap.size W W') : KQ w W' p vb ls im U g := by
  obtain ⟨Z, s, lg, hv, h1, h2, h3, h4, h5⟩ := h
  exact ⟨Z, s, lg, hv.below hb, h1, h2, h3, h4, h5.trans (hb.mono h5.size)⟩
theorem zn_ge {W' : World} (hw : w.heap.size ≤ W.heap.size) (h : ∀ k, Z k → w.heap.size ≤ k) : ∀ k, Zn Z W W' k → w.heap.size ≤ k := fun k hk => hk.elim (h k) (fun h1 => Nat.le_trans hw h1.1)
theorem kq_open {lg0 : Nat} {Zs : Nat → Prop} (h : SF W Zs p s 1000 ls lg0 im) (ha : s.a = false) (hd : s.d = false) (hl : lg0 ≤ g) (hg : g ≤ 800) (hu : s.used ≤ U) (hz : ∀ k, Zs k → w.heap.size ≤ k) (hb : Below w.heap.size w W) : Calls Tryz.prog 9 #[.pointer (some ⟨p, 0, none⟩)] W fun e W' => ∃ vb, e = .returned (.tuple #[.pointer (some ⟨vb, 0, none⟩), .int .i64 0]) ∧ KQ w W' p vb ls im U g := by
  refine (vv_open h ha hd (.inr (by omega))).mono ?_
  rintro e W' ⟨ho, vb, Z', s', rfl, hv, hzz, ha', hu'⟩
  exact ⟨vb, rfl, Z', s', lg0, hv, hl, ha', by omega, fun k hk => (hzz k hk).elim (hz k) (fun h1 => Nat.le_trans hb.size h1), hb.trans (ho.below hz hb.size)⟩
theorem kq_add (h : KQ w W p vb ls im U g) (c : Int) (hc : 0 ≤ c ∧ c < 256) (hn : ls.length < 99) (hU : U + 10 ≤ 1000) : Calls Tryz.prog 10 #[.pointer (some ⟨vb, 0, none⟩), .slice (some ⟨W.heap.size, 0, none⟩) 1 1] (W.alloc (.cells #[.int .u8 c] 5 (1, 2))) fun e W' => e = .returned (.int .i64 0) ∧ KQ w W' p vb (ls ++ [[c]]) im (U + 10) (g + 10) := by
  obtain ⟨Z, s, lg, hv, h1, h2, h3, h4, h5⟩ := h
  have hal : Below W.heap.size W (W.alloc (.cells #[.int .u8 c] 5 (1, 2))) := alloc_below _ _
  have hb : BAt (W.alloc (.cells #[.int .u8 c] 5 (1, 2))) (.slice (some ⟨W.heap.size, 0, none⟩) 1 1) [c] := lit_at W [c] (1, 2)
  have hbl := hv.bl
  refine (vv_add (hv.below hal) hb ⟨fun x hx => by simp at hx; omega, by simp⟩ (fun hp a n c' ha hz => by
    cases ha
    have := hv.zl _ hz
    exact absurd this (Nat.lt_irrefl _)) hn).mono ?_
  rintro e W' ⟨ho, E, s', rfl, hu, hcs⟩
  have e10 : ([c] : List Int).length = 1 := rfl
  rw [e10] at hu hcs
  have hz2 : w.heap.size ≤ (W.alloc (.cells #[.int .u8 c] 5 (1, 2))).heap.size := Nat.le_trans h5.size hal.size
  rcases hcs with ⟨rfl, hv', ha'⟩ | ⟨_, h14, _⟩ | ⟨_, h7, _⟩
  · exact ⟨rfl, _, s', _, hv', by omega, by rw [ha', h2], by omega, zn_ge hz2 h4, (h5.trans (hal.mono h5.size)).trans (ho.below h4 hz2)⟩
  · rw [h2] at h14; cases h14
  · omega
theorem kq_pack (h : KQ w W p vb ls im U g) (hU : U + (18 + 70 * ls.length) ≤ 1000) : Calls Tryz.prog 12 #[.pointer (some ⟨vb, 0, none⟩)] W fun e W' => e = .returned (.int .i64 0) ∧ KQ w W' p vb ls (im.1, ls.length) (U + (18 + 70 * ls.length)) g := by
  obtain ⟨Z, s, lg, hv, h1, h2, h3, h4, h5⟩ := h
  refine (vv_pack hv).mono ?_
  rintro e W' ⟨ho, E, s', rfl, hu, hcs⟩
  rcases hcs with ⟨rfl, hv', ha'⟩ | ⟨_, h14, _⟩ | ⟨_, h7, _⟩
  · exact ⟨rfl, _, s', _, hv', h1, by rw [ha', h2], by omega, zn_ge h5.size h4, h5.trans (ho.below h4 h5.size)⟩
  · rw [h2] at h14; cases h14
  · omega
theorem kq_open2 (h : KQ w W p vb ls im U g) (hg : g ≤ 800) : Calls Tryz.prog 9 #[.pointer (some ⟨p, 0, none⟩)] W fun e W' => ∃ vb, e = .returned (.tuple #[.pointer (some ⟨vb, 0, none⟩), .int .i64 0]) ∧ KQ w W' p vb ls im U g := by
  obtain ⟨Z, s, lg, hv, h1, h2, h3, h4, h5⟩ := h
  obtain ⟨hs, hd⟩ := vv_sf hv
  exact kq_open hs h2 (hd rfl) h1 hg h3 h4 h5
theorem kq_new (w : World) : Calls Tryz.prog 8 #[.int .i64 1000] w fun e W => e = .returned (.tuple #[.pointer (some ⟨w.heap.size, 0, none⟩), .int .i64 0]) ∧ Below w.heap.size w W ∧ Calls Tryz.prog 9 #[.pointer (some ⟨w.heap.size, 0, none⟩)] W fun e W' => ∃ vb, e = .returned (.tuple #[.pointer (some ⟨vb, 0, none⟩), .int .i64 0]) ∧ KQ w W' w.heap.size vb [] (true, 0) 0 0 := by
  refine (Sr.new_any w 1000 (by decide) (by decide)).mono ?_
  rintro e W ⟨rfl, hs, hb, hlt⟩
  exact ⟨rfl, hb, kq_open (sf_new hs hlt) rfl rfl (Nat.le_refl _) (by decide) (Int.le_refl _) (fun k hk => by rw [hk]; exact Nat.le_refl _) hb⟩
end
end Go.Proofs.YtjijgoflbjbnfaaGreat.Vt

namespace Go.Proofs.YtjijgoflbjbnfaaGreat.Vt
open Go.RowKit Fr Sr Jo Sp

theorem rows_lit3 {w : World} {u1 u2 u3 : Value} {l1 l2 l3 : List Int} (h1 : BAt w u1 l1) (h2 : BAt w u2 l2) (h3 : BAt w u3 l3) : RowsA (w.alloc (.cells #[u1, u2, u3] 32)) (.slice (some ⟨w.heap.size, 0, none⟩) 3 3) [l1, l2, l3] := by
  refine ⟨_, 3, rfl, fun _ => ⟨w.heap.size, 0, rfl, by simp, fun i b hi => ?_⟩⟩
  have hb := block_new w (.cells #[u1, u2, u3] 32)
  have hk := Jo.alloc_below w (.cells #[u1, u2, u3] 32)
  have h4 : i = 0 ∨ i = 1 ∨ i = 2 := by have := (List.getElem?_eq_some_iff.1 hi).1; simp at this; omega
  rcases h4 with rfl | rfl | rfl
  · simp at hi; subst hi
    exact ⟨u1, by simp only [World.cell?, Nat.zero_add]; rw [hb]; rfl, h1.kept hk⟩
  · simp at hi; subst hi
    exact ⟨u2, by simp only [World.cell?, Nat.zero_add]; rw [hb]; rfl, h2.kept hk⟩
  · simp at hi; subst hi
    exact ⟨u3, by simp only [World.cell?, Nat.zero_add]; rw [hb]; rfl, h3.kept hk⟩
abbrev kX (w : World) : World := (((w.alloc (.cells #[.int .u8 120] 5 (1, 2))).alloc (.cells #[.int .u8 121] 5 (1, 2))).alloc (.cells #[.int .u8 122] 5 (1, 2))).alloc (.cells #[.slice (some ⟨w.heap.size, 0, none⟩) 1 1, .slice (some ⟨w.heap.size + 1, 0, none⟩) 1 1, .slice (some ⟨w.heap.size + 1 + 1, 0, none⟩) 1 1] 32)
theorem kX_below (w : World) : Below w.heap.size w (kX w) := ((((Below.refl _ _).alloc (Nat.le_refl _) _).alloc (by simp) _).alloc (by simp; omega) _).alloc (by simp; omega) _
def kXs : List (List Int) := [[120], [121], [122]]
theorem k_same {w : World} {A : Option Addr} {n c : Nat} (h : RowsA w (.slice A n c) kXs) : Calls Tryz.prog 15 #[.slice A n c, .slice (some ⟨w.heap.size + 1 + 1 + 1, 0, none⟩) 3 3] (kX w) fun e w' => e = .returned (.bool true) ∧ Below w.heap.size w w' := by
  have e1 := Jo.alloc_below w (.cells #[.int .u8 120] 5 (1, 2))
  have e2 := Jo.alloc_below (w.alloc (.cells #[.int .u8 120] 5 (1, 2))) (.cells #[.int .u8 121] 5 (1, 2))
  have e3 := Jo.alloc_below ((w.alloc (.cells #[.int .u8 120] 5 (1, 2))).alloc (.cells #[.int .u8 121] 5 (1, 2))) (.cells #[.int .u8 122] 5 (1, 2))
  have h1 := ((lit_at w [120] (1, 2)).kept e2).kept e3
  have h2 := (lit_at (w.alloc (.cells #[.int .u8 120] 5 (1, 2))) [121] (1, 2)).kept e3
  have h3 := lit_at ((w.alloc (.cells #[.int .u8 120] 5 (1, 2))).alloc (.cells #[.int .u8 121] 5 (1, 2))) [122] (1, 2)
  have hr : RowsA (kX w) (.slice (some ⟨w.heap.size + 1 + 1 + 1, 0, none⟩) 3 3) kXs := by
    have := rows_lit3 h1 h2 h3
    simpa [bv, kX, kXs] using this
  have hk := kX_below w
  have hl : ∀ b ∈ kXs, b.length ≤ 2000000 := by decide
  refine (rsame_any (kX w) _ _ kXs kXs (h.below hk) hr (by decide) (by decide) hl hl).mono ?_
  rintro e w' ⟨rfl, hb⟩
  exact ⟨by simp, hk.trans (hb.mono hk.size)⟩
theorem kq_all {w W : World} {p vb : Nat} {im : Bool × Nat} {U g : Nat} (h : KQ w W p vb kXs im U g) : Calls Tryz.prog 16 #[.pointer (some ⟨vb, 0, none⟩)] W fun e W' => ∃ A n c, e = .returned (.slice A n c) ∧ RowsA W' (.slice A n c) kXs ∧ Below W.heap.size W W' := by
  obtain ⟨Z, s, lg, hv, _⟩ := h
  refine (vv_all hv).mono ?_
  rintro e W' ⟨v, rfl, hr, hb⟩
  obtain ⟨A, n, c, rfl⟩ := rowsO_eq hr
  exact ⟨A, n, c, rfl, (rowsO_toT (T' := fun _ => False) hr (fun _ h => h.elim)).toA, hb⟩
theorem kq_names {w W : World} {p vb : Nat} {U g : Nat} (h : KQ w W p vb kXs (true, 2) U g) : Calls Tryz.prog 41 #[.pointer (some ⟨p, 0, none⟩)] W fun e W' => ∃ A c, e = .returned (.slice A 2 c) ∧ Below W.heap.size W W' := by
  obtain ⟨Z, s, lg, hv, _⟩ := h
  exact vv_names hv (by decide) (by decide)
set_option maxRecDepth 100000 in
set_option maxHeartbeats 8000000 in
theorem known_any (w : World) : Calls Tryz.prog 22 #[] w fun e w' => e = .returned (.bool true) ∧ Below w.heap.size w w' := by
  have HN := Lib.hid (kq_new w)
  have kc := fun (w : World) (C : Array Value) (n c : Nat) => Lib.run_convert_bytes_const (P := Tryz.prog) w 32 5 C n c Tryz.underlying32 Tryz.underlying5
  have kc2 : ∀ (w : World) (o : Obj) (C : Array Value) (n c : Nat), (convert 32 32 (.slice (some ⟨w.heap.size + 1, 0, none⟩) n c)).run Tryz.prog ((w.alloc o).alloc (.cells C 5)) = .ok (.slice (some ⟨w.heap.size + 1, 0, none⟩) n c) ((w.alloc o).alloc (.cells C 5 (C.size, C.size + 1))) := fun w o C n c => by
    have := kc (w.alloc o) C n c
    rw [World.size_alloc] at this
    exact this
  have kc3 : ∀ (w : World) (o o2 : Obj) (C : Array Value) (n c : Nat), (convert 32 32 (.slice (some ⟨w.heap.size + 1 + 1, 0, none⟩) n c)).run Tryz.prog (((w.alloc o).alloc o2).alloc (.cells C 5)) = .ok (.slice (some ⟨w.heap.size + 1 + 1, 0, none⟩) n c) (((w.alloc o).alloc o2).alloc (.cells C 5 (C.size, C.size + 1))) := fun w o o2 C n c => by
    have := kc2 (w.alloc o) o2 C n c
    rw [World.size_alloc] at this
    exact this
  obtain ⟨p, hp⟩ : ∃ p, p = w.heap.size := ⟨_, rfl⟩
  rw [← hp] at HN
  have HP := Lib.hid hp
  clear hp
  go_enter Tryz.func22, Tryz.ntmps22
  go_wp2_with (first
    | (go_at_call 41; (with_reducible refine (kq_names (HQ7.out.below HB9.out)).mono ?_); rintro e w10 ⟨A10, c10, rfl, h10⟩; have HB10 := Lib.hid h10; clear h10)
    | (go_at_call 15; (with_reducible refine (k_same HR8.out).mono ?_); rintro e w9 ⟨rfl, h9⟩; have HB9 := Lib.hid (HB8.out.trans (h9.mono HB8.out.size)); clear h9)
    | (go_at_call 16; (with_reducible refine (kq_all HQ7.out).mono ?_); rintro e w8 ⟨A8, n8, c8, rfl, hr8, hb8⟩; have HR8 := Lib.hid hr8; have HB8 := Lib.hid hb8; clear hr8 hb8)
    | (go_at_call 9; (with_reducible refine (kq_open2 HQ6.out (by decide)).mono ?_); rintro e w7 ⟨vc, rfl, h7⟩; have HQ7 := Lib.hid h7; clear h7)
    | (go_at_call 10; (with_reducible refine (kq_add (W := w5) HQ5.out 122 (by decide) (by decide) (by decide)).mono ?_); rintro e w6 ⟨rfl, h6⟩; have HQ6 := Lib.hid h6; clear h6)
    | (go_at_call 12; (with_reducible refine (kq_pack HQ4.out (by decide)).mono ?_); rintro e w5 ⟨rfl, h5⟩; have HQ5 := Lib.hid h5; clear h5)
    | (go_at_call 10; (with_reducible refine (kq_add (W := w3) HQ3.out 121 (by decide) (by decide) (by decide)).mono ?_); rintro e w4 ⟨rfl, h4⟩; have HQ4 := Lib.hid h4; clear h4)
    | (go_at_call 10; (with_reducible refine (kq_add (W := w2) HQ2.out 120 (by decide) (by decide) (by decide)).mono ?_); rintro e w3 ⟨rfl, h3⟩; have HQ3 := Lib.hid h3; clear h3)
    | (go_at_call 9; (with_reducible refine HV.out.mono ?_); rintro e w2 ⟨vb, rfl, h2⟩; have HQ2 := Lib.hid h2; clear h2)
    | (go_at_call 8; (with_reducible refine HN.out.mono ?_); rintro e w1 ⟨rfl, hb1, hv1⟩; have HV := Lib.hid hv1; clear hb1 hv1))
  go_ret
  exact ⟨rfl, HQ7.out.bel.trans ((HB9.out.trans (HB10.out.mono HB9.out.size)).mono HQ7.out.bel.size)⟩
end Go.Proofs.YtjijgoflbjbnfaaGreat.Vt
