/-
  The comparison that gather hands to the sort, and the insertion sort of a part of a row. Conditions: places within the row.
-/
import Derived.Test.YtflhpijcfiamgaaTRowIi
import Derived.Test.YtflhpijcfiamgaaTSort
import Derived.Test.YtflhpijcfiamgaaTLays
namespace Go.Proofs.Ytflhpijcfiamgaa.Tb.Ii
open Go.RowKit Go.Sort

def enc (r : R) : List Value := [ek r.1, ev r.2]
theorem enc_len (r : R) : (enc r).length = 2 := rfl
theorem enc_one (r : R) : ∀ v ∈ enc r, v.oneCell' = true := fun v hv => by simp [enc] at hv; rcases hv with rfl | rfl <;> rfl

/-- A world of the sort keeps all but the row's block. -/
theorem kept_of_swk {w0 W : World} {blk off : Nat} {d : Array R} (h : SWK enc 2 w0 blk off d W) : Kept (fun k => k = blk) w0 W := by
  obtain ⟨n, os, rfl⟩ := h
  refine ⟨rfl, rfl, rfl, ?_, fun k hk hn => ?_⟩
  · unfold sortWorldK
    rw [size_grow, size_putRowK]
    exact Nat.le_add_right _ _
  · unfold sortWorldK putRowK putRow mapBlock grow
    show ((w0.heap.modify blk _) ++ os)[k]? = _
    rw [Array.getElem?_append_left (by simpa using hk), Array.getElem?_modify, if_neg (by omega)]

/-- A row that is held: its cells. -/
theorem holdsK_of (w : World) (g off : Nat) (l : List R) (h : ∀ i r, l[i]? = some r → (w.cell? ⟨g, off + i * 2, none⟩ = some (ek r.1) ∧ w.cell? ⟨g, off + i * 2 + 1, none⟩ = some (ev r.2)) ∧ w.frozen? ⟨g, off + i * 2, none⟩ = false ∧ w.frozen? ⟨g, off + i * 2 + 1, none⟩ = false) : HoldsK enc 2 w g off l.toArray := by
  intro j hj
  rw [size_flatK, List.size_toArray] at hj
  have hlt : j / 2 < l.length := by omega
  obtain ⟨r, hr⟩ : ∃ r, l[j / 2]? = some r := ⟨_, List.getElem?_eq_getElem hlt⟩
  have hb : l.toArray[j / 2]! = r := get_bang _ _ _ (by simpa using hr)
  obtain ⟨⟨h1, h2⟩, h3, h4⟩ := h _ r hr
  rw [get_flatK _ _ _ _ (by simpa using hj), hb]
  rcases Nat.mod_two_eq_zero_or_one j with e | e
  · have ej : j = j / 2 * 2 := by omega
    rw [e, show off + j = off + j / 2 * 2 by omega]
    exact ⟨h1, h3⟩
  · have ej : j = j / 2 * 2 + 1 := by omega
    rw [e, show off + j = off + j / 2 * 2 + 1 by omega]
    exact ⟨h2, h4⟩
/-- Its cells again. -/
theorem cells_of_holds {w : World} {g off : Nat} {d : Array R} (h : HoldsK enc 2 w g off d) (i : Nat) (r : R) (hi : d.toList[i]? = some r) : w.cell? ⟨g, off + i * 2, none⟩ = some (ek r.1) ∧ w.cell? ⟨g, off + i * 2 + 1, none⟩ = some (ev r.2) := by
  have hlt : i < d.size := by have := (List.getElem?_eq_some_iff.1 hi).1; simpa using this
  have h0 := (h.cell hlt (show 0 < 2 by decide)).1
  have h1 := (h.cell hlt (show 1 < 2 by decide)).1
  rw [get_bang d i r hi] at h0 h1
  exact ⟨h0, h1⟩

set_option maxRecDepth 100000 in
theorem cmpc_any (x y : R) (W : World) : Calls Try.prog 70 #[.agg #[ek x.1, ev x.2], .agg #[ek y.1, ev y.2]] W fun e w' => e = .returned (.int .i64 (cmpK x.1 y.1)) ∧ ∃ q os', w' = grow (W.drewN q) os' := by
  have hc := fun w => compare_int x.1 y.1 w
  obtain ⟨z, hz⟩ : ∃ z, z = cmpK x.1 y.1 := ⟨_, rfl⟩
  rw [← hz] at hc ⊢
  have HC := Lib.hid hc
  clear hc hz
  unfold ek ev
  go_enter Try.func70, Try.ntmps70
  go_wp2_with (go_at_call 61; refine (HC.out _).mono ?_; rintro e w' ⟨rfl, rfl⟩)
  go_ret
  exact ⟨rfl, 0, _, by rw [alloc_eq_grow, alloc_eq_grow, grow_grow]; rfl⟩
theorem cmpLays_any (blk off size : Nat) (w : World) : CmpLays Try.prog 70 #[] enc 2 cfR blk off size w := fun _ _ _ _ x y => cmpc_any x y _

/-- The insertion sort of a part. -/
theorem ins_any (w0 W : World) (blk off cap a b : Nat) (d0 d : Array R) (hW : SWK enc 2 w0 blk off d W) (hH : HoldsK enc 2 w0 blk off d0) (hs : d.size = d0.size) (hblk : blk < w0.heap.size) (hab : a ≤ b) (hb : b ≤ d.size) (hsz : d.size < 4611686018427387904) :
    Calls Try.prog 90 #[.slice (some ⟨blk, off, none⟩) d.size cap, .int .i64 a, .int .i64 b, .func (.func 70) #[] #[]] W fun e w' => e = .returned (.tuple #[]) ∧ SWK enc 2 w0 blk off (Go.Sort.insertionSort (ltOf cfR) d a b) w' := by
  have h := AnyQ.insertionSortCmpFunc Try.insLaysIi 2 Try.isAgg55 Try.sizeOf55 enc enc_len enc_one cfR 70 #[] blk off cap a b d W (enters_of Try.func70 (by kernel_rfl) rfl) (cmpLays_any _ _ _ _) (hW.holds hblk hH hs) (hW.lt hblk) hab hb hsz
  change Calls Try.prog 90 _ _ _ at h
  refine h.mono fun e w' he => ⟨he.1, ?_⟩
  obtain ⟨n, os, rfl⟩ := he.2
  exact hW.on hblk n _ os (size_insertion d a b hab hb)
end Go.Proofs.Ytflhpijcfiamgaa.Tb.Ii
