/-
  A store's Names; lists of texts that are the same. Conditions: a store of at most a thousand files, whose names have at most twelve bytes.
-/
import Derived.Test.YtklngdmpledgeaaSAny
import Derived.Test.YtklngdmpledgeaaPB19
namespace Go.Proofs.Ytklngdmpledgeaa.Sr
open Go.RowKit Go.Maps Go.Sort Fr
open Go.WideElems (Fit rd rg rd_mk rg_of)

/-- Texts in memory. -/
def SRd (w : World) (A : Option Addr) (L : List ByteArray) : Prop := L = [] ∨ ∃ g o, A = some ⟨g, o, none⟩ ∧ g < w.heap.size ∧ ∀ i s, L[i]? = some s → w.cell? ⟨g, o + i, none⟩ = some (.string s)
theorem SRd.below {w w' : World} {A : Option Addr} {L : List ByteArray} (h : SRd w A L) (hb : Below w.heap.size w w') : SRd w' A L :=
  h.imp id fun ⟨g, o, e, hg, hc⟩ => ⟨g, o, e, Nat.lt_of_lt_of_le hg hb.size, fun i s hi => (hb.cell (p := ⟨g, o + i, none⟩) hg).trans (hc i s hi)⟩
theorem own_strs {w : World} {base : Nat} {v : Value} {L : List ByteArray} (h : w.ownsRow base 9 1 v L.length (sv L)) : ∃ A cap, v = .slice A L.length cap ∧ SRd w A L := by
  rcases h.2 with ⟨rfl, h0⟩ | ⟨g, cap, cur, rfl, _, hh, _, _, hs, ht⟩
  · obtain rfl : L = [] := List.length_eq_zero_iff.1 h0
    exact ⟨none, 0, rfl, .inl rfl⟩
  · refine ⟨_, cap, rfl, .inr ⟨g, 0, rfl, (Array.getElem?_eq_some_iff.1 hh).1, fun i s hi => ?_⟩⟩
    have hlt : i < L.length := (List.getElem?_eq_some_iff.1 hi).1
    have hc : (sv L)[i]? = some (.string s) := by unfold sv; rw [List.getElem?_map, hi]; rfl
    rw [← ht, List.getElem?_take, if_pos (by omega)] at hc
    rw [Nat.zero_add, cell_of_row _ g i _ _ _ hh]
    simpa using hc
set_option maxRecDepth 100000 in
set_option maxHeartbeats 1000000 in
theorem same_strs (w : World) (A B : Option Addr) (c1 c2 : Nat) (L : List ByteArray) (hA : SRd w A L) (hB : SRd w B L) (hn : L.length ≤ 1000) :
    Calls Try.prog 77 #[.slice A L.length c1, .slice B L.length c2] w fun e w' => e = .returned (.bool true) ∧ Below w.heap.size w w' := by
  have HA := Lib.hid hA
  have HB := Lib.hid hB
  have e0 : ((L.length : Int) != (L.length : Int)) = false := by simp
  clear hA hB
  go_enter Try.func77, Try.ntmps77
  go_wp2
  go_loopg [5] L.length (fun (gh : Nat) si wx => ∃ i : Nat, gh = L.length - i ∧ i ≤ L.length ∧ si = .int .i64 (i : Int) ∧ Hid (Below w.heap.size w wx))
  case atStart => exact ⟨0, rfl, Nat.zero_le _, rfl, Below.refl _ _⟩
  case round =>
    obtain ⟨i, rfl, hi, rfl, hinv⟩ := hrel
    by_cases hlt : i < L.length
    · obtain ⟨s, hs⟩ : ∃ s, L[i]? = some s := ⟨_, List.getElem?_eq_getElem hlt⟩
      rcases HA.out with h0 | ⟨g, o, rfl, hg, hcell⟩
      · rw [h0] at hs; simp at hs
      rcases HB.out with h0 | ⟨g2, o2, rfl, hg2, hcell2⟩
      · rw [h0] at hs; simp at hs
      have c1 := (hinv.out.cell (p := ⟨g, o + i, none⟩) hg).trans (hcell i s hs)
      have c2 := (hinv.out.cell (p := ⟨g2, o2 + i, none⟩) hg2).trans (hcell2 i s hs)
      have t1 : (i : Int) < (L.length : Int) := by omega
      have t2 : (0 : Int) ≤ (i : Int) := by omega
      have e1 : (s.toList != s.toList) = false := by simp
      clear hcell hcell2 hs
      go_wp2_with fail
      go_quiet (fail)
      go_wp2
      go_roundg (L.length - (i + 1))
      case measure => omega
      case rel => exact ⟨i + 1, rfl, by omega, by go_num, below_drewN hinv.out _⟩
    · obtain rfl : i = L.length := by omega
      have HI := Lib.hid hinv.out
      clear hinv
      go_wp2
      go_ret
      exact ⟨rfl, HI.out⟩

/-- The names, rising. -/
def keyB (L : List Fi) : List (List UInt8) := L.map fun x => x.1.data.toList
def nmL (L : List Fi) : List ByteArray := ((keyB L).mergeSort leB).map fun l => ⟨l.toArray⟩
theorem keyB_mem {L : List Fi} {l : List UInt8} : l ∈ keyB L ↔ hasL L ⟨l.toArray⟩ = true := by
  rw [has_mem]
  unfold keyB
  rw [List.mem_map]
  constructor
  · rintro ⟨x, hx, rfl⟩; exact ⟨x, hx, by simp⟩
  · rintro ⟨x, hx, e⟩; exact ⟨x, hx, by rw [e]⟩
theorem keyB_nodup {L : List Fi} (h : KeysL L) : (keyB L).Nodup := by
  unfold keyB
  refine List.pairwise_map.2 (h.imp fun {x y} hne e => hne ?_)
  have : x.1.data = y.1.data := Array.toList_inj.1 e
  cases hx : x.1; cases hy : y.1
  rw [hx, hy] at this
  exact congrArg _ this
theorem keyB_perm {L L' : List Fi} (h : KeysL L) (h' : KeysL L') (ha : Alike L L') : (keyB L).Perm (keyB L') :=
  (List.perm_ext_iff_of_nodup (keyB_nodup h) (keyB_nodup h')).2 fun l => by rw [keyB_mem, keyB_mem, (ha _).1]
theorem nmL_alike {L L' : List Fi} (h : KeysL L) (h' : KeysL L') (ha : Alike L L') : nmL L = nmL L' := by
  unfold nmL; rw [mergeSort_of_perm (keyB_perm h h' ha)]
theorem len_alike {L L' : List Fi} (h : KeysL L) (h' : KeysL L') (ha : Alike L L') : L.length = L'.length := by
  have := (keyB_perm h h' ha).length_eq
  simpa [keyB] using this
theorem nmL_len (L : List Fi) : (nmL L).length = L.length := by
  unfold nmL keyB
  rw [List.length_map, (List.mergeSort_perm _ _).length_eq, List.length_map]
theorem nmL_has {L : List Fi} {k : ByteArray} (h : k ∈ nmL L) : hasL L k = true := by
  unfold nmL at h
  obtain ⟨l, hl, rfl⟩ := List.mem_map.1 h
  exact keyB_mem.1 ((List.mergeSort_perm _ _).mem_iff.1 hl)

/-- How a file's bytes read is not asked. -/
def RU : Value → Option (DataW Unit × List MemPlace) := fun _ => some (.nil, [])
theorem map_owns {w : World} {b : Nat} {L : List Fi} (h : MapR w b L) (hl : L.length ≤ 1000) (hk : ∀ x ∈ L, x.1.size ≤ 12) :
    ∃ D, w.ownsMap Try.prog 9 RU b 1000 D ∧ (strKeys D).Perm (keyB L) ∧ Maps.size D ≤ 1000 := by
  obtain ⟨es, clock, hb, hs, he⟩ := h
  have hlen : es.size = L.length := by
    have := congrArg List.length he
    simpa [ents, rows] using this
  have hrd : ∀ x ∈ es.toList, ∃ y ∈ L, x.key = .string y.1 ∧ rd Try.prog 9 RU x = some (.string y.1.data.toList, .nil) := fun x hx => by
    have : (x.key, x.val) ∈ ents es.toList := List.mem_map.2 ⟨x, hx, rfl⟩
    rw [he] at this
    obtain ⟨y, hy, e⟩ := List.mem_map.1 this
    have e1 : Value.string y.1 = x.key := congrArg Prod.fst e
    refine ⟨y, hy, e1.symm, ?_⟩
    have h12 := hk y hy
    obtain ⟨xk, xv, xb⟩ := x
    cases e1
    exact rd_mk (Go.WideMaps.keyOf_string_mk strT (by unfold maxLen; omega)) (rfl : RU xv = some (.nil, []))
  have hF : Fit Try.prog 9 RU es clock := ⟨by unfold maxLen; omega, hs, fun x hx => by obtain ⟨y, _, _, h2⟩ := hrd x hx; exact ⟨_, h2⟩⟩
  have hmap : ∀ (l : List MapEntry) (L : List Fi), ents l = rows L → (∀ x ∈ l, ∃ y : Fi, x.key = .string y.1 ∧ rd Try.prog 9 RU x = some (.string y.1.data.toList, .nil)) → (l.map (rg Try.prog 9 RU)).map (fun p => Go.strOf p.1) = keyB L := by
    intro l
    induction l with
    | nil =>
      intro L h _
      cases L with
      | nil => rfl
      | cons x r => simp [ents, rows] at h
    | cons x l ih =>
      intro L h h2
      cases L with
      | nil => simp [ents, rows] at h
      | cons y r =>
        simp only [ents, rows, List.map_cons, List.cons.injEq, Prod.mk.injEq] at h
        obtain ⟨⟨h3, _⟩, h5⟩ := h
        obtain ⟨z, h6, h7⟩ := h2 x List.mem_cons_self
        have hz : z.1 = y.1 := by rw [h3] at h6; exact (Value.string.inj h6).symm
        simp only [List.map_cons, keyB, rg_of h7, Go.strOf, hz]
        have h8 := ih r h5 fun x hx => h2 x (List.mem_cons_of_mem _ hx)
        exact congrArg (List.cons y.1.data.toList) h8
  refine ⟨_, ⟨es, clock, hb, hF, by omega, rfl⟩, ?_, ?_⟩
  · show (((es.toList.map (rg Try.prog 9 RU)).foldr DataW.insert []).map fun p => Go.strOf p.1).Perm (keyB L)
    rw [← hmap es.toList L he fun x hx => by obtain ⟨y, _, h1, h2⟩ := hrd x hx; exact ⟨y, h1, h2⟩]
    exact (Go.WideShapes.sorted_perm _).map _
  · show ((es.toList.map (rg Try.prog 9 RU)).foldr DataW.insert []).length ≤ 1000
    rw [(Go.WideShapes.sorted_perm _).length_eq, List.length_map, Array.length_toList]
    omega

/-- What Names leaves. -/
def NmTo (w w' : World) (L : List Fi) (e : Ending) : Prop := ∃ A c, e = .returned (.slice A (nmL L).length c) ∧ SRd w' A (nmL L) ∧ Below w.heap.size w w'
set_option maxRecDepth 100000 in
set_option maxHeartbeats 1000000 in
theorem names_any {w : World} {p : Nat} {s : S} {mb : Option Nat} {L : List Fi} (h : StR w p s mb L) (hl : L.length ≤ 1000) (hk : ∀ x ∈ L, x.1.size ≤ 12) :
    Calls Try.prog 35 #[.pointer (some ⟨p, 0, none⟩)] w fun e w' => NmTo w w' L e := by
  have HO := Lib.hid (orDown_own w p)
  have c5 := (blk_cells h.blk).1.2.2.2.2.2
  cases mb with
  | none =>
    cases (show L = [] from h.map)
    have HK := Lib.hid (Try.maps_Keys_79 none w)
    have HS := Lib.hid (Try.slices_Sorted_keys_nil_78_79 w)
    clear h hl hk
    refine (callsIn_wide (n := 6)).1 ?_
    have hfK : Fence.wide.fn 79 := trivial
    have hfS : Fence.wide.fn 78 := trivial
    have hfO : Fence.wide.fn 75 := trivial
    refine callsIn_of_wp Try.func35 rfl trivial ?_ rfl
    simp only [Try.ntmps35, List.size_toArray, List.length_cons, List.length_nil, Nat.reduceAdd, Nat.reduceSub, Array.replicate_succ, Array.replicate_zero, List.push_toArray, List.append_toArray, List.nil_append, List.cons_append]
    gi_wp2_with (first
      | (gi_at_call 75; refine (callsIn_wide.2 HO.out).mono ?_; rintro e w' ⟨rfl, rfl⟩)
      | (gi_at_call 79; refine HK.out.mono ?_; rintro e w' ⟨rfl, rfl⟩)
      | (gi_at_call 78; refine HS.out.mono ?_; rintro e w2 ⟨v, ss, rfl, hS, hrow, hnil, hb⟩))
    go_ret
    have hN : nmL [] = [] := by simp [nmL, keyB]
    refine ⟨none, 0, by rw [hN, hnil.2 hS]; rfl, .inl hN, ((Below.refl _ _).alloc (Nat.le_refl _) _).trans (hb.mono (by simp))⟩
  | some b =>
    obtain ⟨D, hown, hperm, hsz⟩ := map_owns h.map hl hk
    have HK := Lib.hid (Try.maps_Keys_79 (some b) w)
    have HS := Lib.hid (Try.slices_Sorted_keys_78_79 b 1000 D RU w hown (by unfold maxLen; omega) (by omega))
    have HP := Lib.hid hperm
    clear h hl hk hown hperm hsz
    refine (callsIn_wide (n := 6)).1 ?_
    have hfK : Fence.wide.fn 79 := trivial
    have hfS : Fence.wide.fn 78 := trivial
    have hfO : Fence.wide.fn 75 := trivial
    refine callsIn_of_wp Try.func35 rfl trivial ?_ rfl
    simp only [Try.ntmps35, List.size_toArray, List.length_cons, List.length_nil, Nat.reduceAdd, Nat.reduceSub, Array.replicate_succ, Array.replicate_zero, List.push_toArray, List.append_toArray, List.nil_append, List.cons_append]
    gi_wp2_with (first
      | (gi_at_call 75; refine (callsIn_wide.2 HO.out).mono ?_; rintro e w' ⟨rfl, rfl⟩)
      | (gi_at_call 79; refine HK.out.mono ?_; rintro e w' ⟨rfl, rfl⟩)
      | (gi_at_call 78; refine HS.out.mono ?_; rintro e w2 ⟨v, ss, rfl, hS, hrow, hnil, hb⟩))
    go_ret
    have hmm : ss.mergeSort (fun x y => decide (x ≤ y)) = (keyB L).mergeSort leB := mergeSort_of_perm (hS.trans HP.out)
    rw [hmm] at hrow
    have hlen : ss.length = (nmL L).length := by
      rw [nmL_len, (hS.trans HP.out).length_eq]; simp [keyB]
    have hsv : ((keyB L).mergeSort leB).map encStr = sv (nmL L) := by
      unfold sv nmL
      rw [List.map_map]; rfl
    rw [hlen, hsv] at hrow
    obtain ⟨A, c, rfl, hrd⟩ := own_strs hrow
    exact ⟨A, c, rfl, hrd, ((Below.refl _ _).alloc (Nat.le_refl _) _).trans (hb.mono (by simp))⟩
end Go.Proofs.Ytklngdmpledgeaa.Sr
