/-
  The insertion sort and the exchange of two elements, said on lists; the insertion sort keeps the order of equal keys. Conditions: places within the row.
-/
import Derived.Test.YtklngdmpledgeaaTMath
import Derived.Shelf.SlSortCmp.KitK
import Derived.Test.YtklngdmpledgeaaJM11
import Derived.Test.YtklngdmpledgeaaTLays
namespace Go.Proofs.Ytklngdmpledgeaa.Tb
open Go.Sort Ky

theorem toList_set {α : Type} (d : Array α) (i : Nat) (v : α) : (d.setIfInBounds i v).toList = d.toList.set i v := by simp
theorem get_bang {α : Type} [Inhabited α] (d : Array α) (i : Nat) (x : α) (h : d.toList[i]? = some x) : d[i]! = x := by
  rw [Array.getElem!_eq_getD, Array.getD_eq_getD_getElem?, ← Array.getElem?_toList, h]; rfl
theorem swp_toList {α : Type} [Inhabited α] (d : Array α) (A M B : List α) (x y : α) (h : d.toList = A ++ x :: (M ++ y :: B)) :
    (swp d A.length (A.length + 1 + M.length)).toList = A ++ y :: (M ++ x :: B) ∧ (swp d (A.length + 1 + M.length) A.length).toList = A ++ y :: (M ++ x :: B) := by
  have hx : d[A.length]! = x := get_bang _ _ _ (by rw [h]; simp)
  have hy : d[A.length + 1 + M.length]! = y := get_bang _ _ _ (by
    rw [h, List.getElem?_append_right (by omega), show A.length + 1 + M.length - A.length = M.length + 1 by omega, List.getElem?_cons_succ, List.getElem?_append_right (by omega), Nat.sub_self]; rfl)
  constructor
  · unfold swp
    rw [hx, hy, toList_set, toList_set, h, List.set_append_right _ _ (by omega), Nat.sub_self, List.set_cons_zero, List.set_append_right _ _ (by omega), show A.length + 1 + M.length - A.length = M.length + 1 by omega, List.set_cons_succ, List.set_append_right _ _ (by omega), Nat.sub_self, List.set_cons_zero]
  · unfold swp
    rw [hx, hy, toList_set, toList_set, h, List.set_append_right _ _ (by omega), show A.length + 1 + M.length - A.length = M.length + 1 by omega, List.set_cons_succ, List.set_append_right _ _ (by omega), Nat.sub_self, List.set_cons_zero, List.set_append_right _ _ (by omega), Nat.sub_self, List.set_cons_zero]

section
variable {κ V : Type} [Ky κ] [Inhabited V]
instance : Inhabited (κ × V) := ⟨(default, default)⟩
/-- Two rows by their keys. -/
def cfR (x y : κ × V) : Int := cmpK x.1 y.1
theorem ltOf_cfR {κ V : Type} [Ky κ] (x y : κ × V) : ltOf cfR x y = lt x.1 y.1 := by
  unfold ltOf cfR
  rw [Bool.eq_iff_iff, decide_eq_true_eq]
  exact cmpK_neg _ _
theorem swo_cfR {κ V : Type} [Ky κ] : SWO (ltOf (cfR : κ × V → κ × V → Int)) where
  irrefl := fun x => by rw [ltOf_cfR]; exact irr _
  trans := fun x y z h k => by rw [ltOf_cfR] at *; exact tr _ _ _ h k
  ntrans := fun x y z h k => by
    rw [ltOf_cfR] at *
    cases e : lt x.1 z.1
    · rfl
    · have := lt_of_lt_not e k
      rw [this] at h; cases h
theorem kv_swp {κ V : Type} [Ky κ] (A B : List (κ × V)) (x y : κ × V) (h : x.1 ≠ y.1) (k : κ) : kv (A ++ y :: x :: B) k = kv (A ++ x :: y :: B) k := by
  rw [kv_append, kv_append]
  congr 1
  unfold kv
  rw [List.filter_cons, List.filter_cons, List.filter_cons, List.filter_cons]
  by_cases h1 : x.1 = k
  · have h2 : ¬ y.1 = k := fun e => h (h1.trans e.symm)
    simp [h1, h2]
  · by_cases h2 : y.1 = k <;> simp [h1, h2]
theorem split_two {α : Type} (l : List α) (j : Nat) (h : j + 1 < l.length) : ∃ A x y B, l = A ++ x :: y :: B ∧ A.length = j := by
  refine ⟨l.take j, l[j], l[j + 1], l.drop (j + 2), ?_, by rw [List.length_take]; omega⟩
  have h1 := List.drop_eq_getElem_cons (show j < l.length by omega)
  have h2 := List.drop_eq_getElem_cons h
  rw [← h2, ← h1, List.take_append_drop]
theorem kv_insInner (a : Nat) (k : κ) : ∀ (j : Nat) (d : Array (κ × V)), j < d.size → kv (insInner (ltOf cfR) a j d).toList k = kv d.toList k
  | 0, d, _ => by rw [insInner]
  | j + 1, d, h => by
    rw [insInner]
    split
    · next hc =>
      simp only [Bool.and_eq_true, decide_eq_true_eq] at hc
      rw [kv_insInner a k j _ (by rw [size_swp]; omega)]
      obtain ⟨A, x, y, B, e, hl⟩ := split_two d.toList j (by simpa using h)
      have hs := (swp_toList d A [] B x y (by simpa using e)).2
      rw [hl] at hs
      rw [show j + 1 + [].length = j + 1 from rfl] at hs
      have hx : d[j]! = x := get_bang _ _ _ (by rw [e, ← hl]; simp)
      have hy : d[j + 1]! = y := get_bang _ _ _ (by rw [e, ← hl, List.getElem?_append_right (by omega)]; simp)
      have hne : x.1 ≠ y.1 := fun e => by
        have := hc.2
        rw [hx, hy, ltOf_cfR, e, irr] at this; cases this
      rw [hs, e]
      exact kv_swp A B x y hne k
    · rfl
theorem size_insInner' (a : Nat) : ∀ (j : Nat) (d : Array (κ × V)), (insInner (ltOf cfR) a j d).size = d.size
  | 0, d => by rw [insInner]
  | j + 1, d => by
    rw [insInner]
    split
    · rw [size_insInner' a j, size_swp]
    · rfl
theorem kv_insOuter (a b : Nat) (k : κ) : ∀ (n i : Nat) (d : Array (κ × V)), b - i = n → b ≤ d.size → kv (insOuter (ltOf cfR) a b i d).toList k = kv d.toList k
  | 0, i, d, hn, _ => by rw [insOuter, if_neg (by omega)]
  | n + 1, i, d, hn, hb => by
    rw [insOuter, if_pos (by omega), kv_insOuter a b k n (i + 1) _ (by omega) (by rw [size_insInner']; exact hb), kv_insInner a k i d (by omega)]
theorem kv_insertion (d : Array (κ × V)) (a b : Nat) (hb : b ≤ d.size) (k : κ) : kv (Go.Sort.insertionSort (ltOf cfR) d a b).toList k = kv d.toList k := kv_insOuter a b k _ _ d rfl hb
theorem size_insertion (d : Array (κ × V)) (a b : Nat) (hab : a ≤ b) (hb : b ≤ d.size) : (Go.Sort.insertionSort (ltOf cfR) d a b).size = d.size := (insertionSort_holds (lt := ltOf cfR) swo_cfR d a b hab hb).1.1
theorem srt_of_sorted (d : Array (κ × V)) (h : SortedIn (ltOf cfR) 0 d.size d) : srt d.toList := by
  unfold srt
  rw [List.pairwise_iff_getElem]
  intro i j hi hj hij
  have := h i j (Nat.zero_le _) hij (by simpa using hj)
  rw [ltOf_cfR, get_bang d j _ (List.getElem?_eq_getElem hj), get_bang d i _ (List.getElem?_eq_getElem hi)] at this
  exact this
/-- The insertion sort of a whole row keeps the order of equal keys. -/
theorem stab_insertion (d : Array (κ × V)) : Stab d.toList (Go.Sort.insertionSort (ltOf cfR) d 0 d.size).toList := by
  have h := insertionSort_holds (lt := ltOf (cfR : κ × V → κ × V → Int)) swo_cfR d 0 d.size (Nat.zero_le _) (Nat.le_refl _)
  refine ⟨srt_of_sorted _ ?_, kv_insertion d 0 d.size (Nat.le_refl _)⟩
  rw [h.1.1]
  exact h.2
end
end Go.Proofs.Ytklngdmpledgeaa.Tb

namespace Go.Proofs.Ytklngdmpledgeaa.Tb.Ib
open Go.RowKit Go.Sort

def enc (r : R) : List Value := [ek r.1, ev r.2]
theorem enc_len (r : R) : (enc r).length = 2 := rfl
theorem enc_one (r : R) : ∀ v ∈ enc r, v.oneCell' = true := fun v hv => by simp [enc] at hv; rcases hv with rfl | rfl <;> rfl

/-- A world of the sort keeps all but the row's block. -/
theorem kept_of_swk {w0 W : World} {blk off : Nat} {d : Array R} (h : SWK enc 2 w0 blk off d W) : Kept (fun k => k = blk) w0 W := by
  obtain ⟨n, os, rfl⟩ := h
  refine ⟨rfl, rfl, rfl, ?_, fun k hk hn => ?_⟩
  · unfold sortWorldK
    rw [size_grow, size_putRowK]
    exact Nat.le_add_right _ _
  · unfold sortWorldK putRowK putRow mapBlock grow
    show ((w0.heap.modify blk _) ++ os)[k]? = _
    rw [Array.getElem?_append_left (by simpa using hk), Array.getElem?_modify, if_neg (by omega)]

/-- A row that is held: its cells. -/
theorem holdsK_of (w : World) (g off : Nat) (l : List R) (h : ∀ i r, l[i]? = some r → (w.cell? ⟨g, off + i * 2, none⟩ = some (ek r.1) ∧ w.cell? ⟨g, off + i * 2 + 1, none⟩ = some (ev r.2)) ∧ w.frozen? ⟨g, off + i * 2, none⟩ = false ∧ w.frozen? ⟨g, off + i * 2 + 1, none⟩ = false) : HoldsK enc 2 w g off l.toArray := by
  intro j hj
  rw [size_flatK, List.size_toArray] at hj
  have hlt : j / 2 < l.length := by omega
  obtain ⟨r, hr⟩ : ∃ r, l[j / 2]? = some r := ⟨_, List.getElem?_eq_getElem hlt⟩
  have hb : l.toArray[j / 2]! = r := get_bang _ _ _ (by simpa using hr)
  obtain ⟨⟨h1, h2⟩, h3, h4⟩ := h _ r hr
  rw [get_flatK _ _ _ _ (by simpa using hj), hb]
  rcases Nat.mod_two_eq_zero_or_one j with e | e
  · have ej : j = j / 2 * 2 := by omega
    rw [e, show off + j = off + j / 2 * 2 by omega]
    exact ⟨h1, h3⟩
  · have ej : j = j / 2 * 2 + 1 := by omega
    rw [e, show off + j = off + j / 2 * 2 + 1 by omega]
    exact ⟨h2, h4⟩
/-- Its cells again. -/
theorem cells_of_holds {w : World} {g off : Nat} {d : Array R} (h : HoldsK enc 2 w g off d) (i : Nat) (r : R) (hi : d.toList[i]? = some r) : w.cell? ⟨g, off + i * 2, none⟩ = some (ek r.1) ∧ w.cell? ⟨g, off + i * 2 + 1, none⟩ = some (ev r.2) := by
  have hlt : i < d.size := by have := (List.getElem?_eq_some_iff.1 hi).1; simpa using this
  have h0 := (h.cell hlt (show 0 < 2 by decide)).1
  have h1 := (h.cell hlt (show 1 < 2 by decide)).1
  rw [get_bang d i r hi] at h0 h1
  exact ⟨h0, h1⟩

set_option maxRecDepth 100000 in
theorem cmpc_any (x y : R) (W : World) : Calls Try.prog 150 #[.agg #[ek x.1, ev x.2], .agg #[ek y.1, ev y.2]] W fun e w' => e = .returned (.int .i64 (cmpK x.1 y.1)) ∧ ∃ q os', w' = grow (W.drewN q) os' := by
  have hc := fun w => compare_int x.1 y.1 w
  obtain ⟨z, hz⟩ : ∃ z, z = cmpK x.1 y.1 := ⟨_, rfl⟩
  rw [← hz] at hc ⊢
  have HC := Lib.hid hc
  clear hc hz
  unfold ek ev
  go_enter Try.func150, Try.ntmps150
  go_wp2_with (go_at_call 151; refine (HC.out _).mono ?_; rintro e w' ⟨rfl, rfl⟩)
  go_ret
  exact ⟨rfl, 0, _, by rw [alloc_eq_grow, alloc_eq_grow, grow_grow]; rfl⟩
theorem cmpLays_any (blk off size : Nat) (w : World) : CmpLays Try.prog 150 #[] enc 2 cfR blk off size w := fun _ _ _ _ x y => cmpc_any x y _

/-- The insertion sort of a part. -/
theorem ins_any (w0 W : World) (blk off cap a b : Nat) (d0 d : Array R) (hW : SWK enc 2 w0 blk off d W) (hH : HoldsK enc 2 w0 blk off d0) (hs : d.size = d0.size) (hblk : blk < w0.heap.size) (hab : a ≤ b) (hb : b ≤ d.size) (hsz : d.size < 4611686018427387904) :
    Calls Try.prog 189 #[.slice (some ⟨blk, off, none⟩) d.size cap, .int .i64 a, .int .i64 b, .func (.func 150) #[] #[]] W fun e w' => e = .returned (.tuple #[]) ∧ SWK enc 2 w0 blk off (Go.Sort.insertionSort (ltOf cfR) d a b) w' := by
  have h := AnyQ.insertionSortCmpFunc Try.insLaysIb 2 Try.isAgg122 Try.sizeOf122 enc enc_len enc_one cfR 150 #[] blk off cap a b d W (enters_of Try.func150 (by kernel_rfl) rfl) (cmpLays_any _ _ _ _) (hW.holds hblk hH hs) (hW.lt hblk) hab hb hsz
  change Calls Try.prog 189 _ _ _ at h
  refine h.mono fun e w' he => ⟨he.1, ?_⟩
  obtain ⟨n, os, rfl⟩ := he.2
  exact hW.on hblk n _ os (size_insertion d a b hab hb)
end Go.Proofs.Ytklngdmpledgeaa.Tb.Ib

namespace Go.Proofs.Ytklngdmpledgeaa.Tb.Ib
open Go.RowKit Go.Sort

set_option maxRecDepth 100000 in
theorem ins_none (A : Option Addr) (cap : Nat) (f : Value) (w : World) : Calls Try.prog 189 #[.slice A 0 cap, .int .i64 0, .int .i64 0, f] w fun e w' => e = .returned (.tuple #[]) ∧ w = w' := by
  go_enter Try.func189, Try.ntmps189
  go_wp2
  refine wp_loop_rounds 1 ?_
  rw [rounds_succ]
  go_wp2
  go_end0
  exact ⟨rfl, rfl⟩
set_option maxRecDepth 100000 in
theorem stable_none (A : Option Addr) (cap : Nat) (f : Value) (w : World) : Calls Try.prog 176 #[.slice A 0 cap, .int .i64 0, f] w fun e w' => e = .returned (.tuple #[]) ∧ w = w' := by
  go_enter Try.func176, Try.ntmps176
  go_wp2
  refine wp_loop_rounds 1 ?_
  rw [rounds_succ]
  go_wp2_with (go_at_call 189; refine (ins_none A cap f _).mono ?_; rintro e w' ⟨rfl, rfl⟩)
  refine wp_loop_rounds 1 ?_
  rw [rounds_succ]
  go_wp2
  go_end0
  exact ⟨rfl, rfl⟩
set_option maxRecDepth 100000 in
theorem sort_none (A : Option Addr) (cap : Nat) (f : Value) (w : World) : Calls Try.prog 149 #[.slice A 0 cap, f] w fun e w' => e = .returned (.tuple #[]) ∧ w = w' := by
  go_enter Try.func149, Try.ntmps149
  go_wp2_with (go_at_call 176; refine (stable_none A cap f _).mono ?_; rintro e w' ⟨rfl, rfl⟩)
  go_end0
  exact ⟨rfl, rfl⟩

/-- What the stable sort leaves. -/
def Sorted (w : World) (g off : Nat) (l : List R) (w' : World) : Prop := ∃ d : Array R, d.size = l.length ∧ Stab l d.toList ∧ SWK enc 2 w g off d w'

set_option maxRecDepth 100000 in
set_option maxHeartbeats 1000000 in
theorem stable_small (w : World) (g off cap : Nat) (l : List R) (hH : HoldsK enc 2 w g off l.toArray) (hg : g < w.heap.size) (hn : l.length < 20) :
    Calls Try.prog 176 #[.slice (some ⟨g, off, none⟩) l.length cap, .int .i64 l.length, .func (.func 150) #[] #[]] w fun e w' => e = .returned (.tuple #[]) ∧ Sorted w g off l w' := by
  have hi := ins_any w w g off cap 0 l.toArray.size l.toArray l.toArray (SWK.start hH) hH rfl hg (Nat.zero_le _) (Nat.le_refl _) (by simp; omega)
  simp only [List.size_toArray] at hi
  have hi2 := hi.mono (R' := fun e w' => e = .returned (.tuple #[]) ∧ Sorted w g off l w') fun e w' ⟨h1, h2⟩ => ⟨h1, by
    have hst := stab_insertion l.toArray
    simp only [List.size_toArray] at hst
    exact ⟨_, by rw [size_insertion _ _ _ (Nat.zero_le _) (by simp)]; simp, hst, h2⟩⟩
  have HI := Lib.hid hi2
  clear hi hi2 hH
  go_enter Try.func176, Try.ntmps176
  go_wp2
  refine wp_loop_rounds 1 ?_
  rw [rounds_succ]
  go_wp2_with (go_at_call 189; refine HI.out.mono ?_; rintro e w' ⟨rfl, hs⟩)
  have HS := Lib.hid hs
  clear hs
  refine wp_loop_rounds 1 ?_
  rw [rounds_succ]
  go_wp2
  all_goals first | (exfalso; omega) | (go_end0; exact ⟨rfl, HS.out⟩)
set_option maxRecDepth 100000 in
theorem sort_small (w : World) (g off cap : Nat) (l : List R) (hH : HoldsK enc 2 w g off l.toArray) (hg : g < w.heap.size) (hn : l.length < 20) :
    Calls Try.prog 149 #[.slice (some ⟨g, off, none⟩) l.length cap, .func (.func 150) #[] #[]] w fun e w' => e = .returned (.tuple #[]) ∧ Sorted w g off l w' := by
  have HI := Lib.hid (stable_small w g off cap l hH hg hn)
  clear hH
  go_enter Try.func149, Try.ntmps149
  go_wp2_with (go_at_call 176; refine HI.out.mono ?_; rintro e w' ⟨rfl, hs⟩)
  have HS := Lib.hid hs
  clear hs
  go_end0
  exact ⟨rfl, HS.out⟩
end Go.Proofs.Ytklngdmpledgeaa.Tb.Ib
